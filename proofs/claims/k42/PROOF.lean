import PyProof.Rows.All
import Wide.All
import OpenK.AllK
import Wide.FinOn
import Lean
import PyProof.EqAt
import PyProof.EqKinds
import PyProof.TupleCall
import PySem.SetOps
import KE.KDictSum
import KE.KDictList
import PyProof.ZipIter
import KE.KFind
import PyProof.MaxThree
import PyProof.Rows.IntMath
import PyProof.EnumMake
import PyProof.Rows.EnumRows
import KE.KDictLaws
import PyProof.DictWalks
import PyProof.Rows.SortRuns
import KE.KSortKey
import PyProof.Rows.SortRuns
import PyProof.Rows.SortShell
import PySem.Challenge.RW_hookrail_k42_the_told_reason
open Array renaming length_toList→zO,getElem?_toList→zd,getElem?_eq_getElem→yD,toList_append→yK,getElem?_eq_none→yn,toList_extract→xw,toArray_toList→xy,toList_reverse→wI,perm_iff_toList_perm→wJ,toList_eraseIdxIfInBounds→wj,getElem?_eq_some_iff→ZG,toList_setIfInBounds→ZH,toList_push→ZM,size_push→Zh,getElem?_push→Zr,forIn_toList→Z6,size_map→Yp,toList→Yw
open Array.Perm renaming refl→Zk
open Bool renaming false_eq_true→yG,and_eq_true→yP,false_ne_true→xA,or_false→wq,and_eq_true_iff→wv,false_and→w8,and_false→ZA,and_true→ZO,false_or→Z0,not_true→Z1,true_or→YL,not_eq_true'→YN,not_false→Yr,true_and→Yv
open Int renaming le_refl→yE,le_trans→ye,le_of_lt→yg,toNat_natCast→yk,toNat_of_nonneg→wT,mul_zero→wf,ne_of_lt→Za,sub_self→Zb,add_zero→YO,natCast_zero→Yd,mul_add→Ye,reduceToNat→Yh
open List renaming getElem?_eq_getElem→zA,length_map→zB,length_append→zD,mem_cons_self→zF,mem_cons→zG,mem_cons_of_mem→zH,getElem?_set_ne→zI,length_cons→zJ,mem_append→zK,append_assoc→zM,getElem?_map→zP,size_toArray→zQ,mem_singleton→zR,mem_append_right→zS,length_singleton→zT,mem_append_left→zV,map_append→zW,getD_eq_getElem?_getD→zX,mem_iff_getElem→zY,map_cons→zZ,pairwise_cons→za,getElem?_append_right→zb,pairwise_append→zc,getElem?_append_left→ze,length_take→zf,mem_of_getElem?→zg,exists_cons_of_length_eq_add_one→zh,mem_map→zi,not_mem_nil→zj,replicate→zk,range→zo,getElem?_eq_some_iff→zt,getElem?_eq_none→zu,append_nil→zx,sum_cons→z8,flatten_cons→yB,length_range→yC,take_append_drop→yF,length_filter_le→yH,mem_filter→yL,map_map→yM,length_replicate→yN,length_drop→yO,filter_cons→yQ,map_congr_left→yR,nil_append→yT,replicate_succ→yU,getElem?_set_self→yV,pairwise_iff_getElem→yY,getElem_mem→yZ,length_set→yi,nodup_append→yl,eq_nil_of_length_eq_zero→ym,mem_reverse→yp,perm_append_comm→yq,map_nil→yr,ext_getElem?→yt,filter_cons_of_pos→yu,filter_cons_of_neg→yv,nodup_cons→yx,take_of_length_le→yy,getElem?_replicate→xB,mem_range→xC,getElem_take→xD,filter_eq_self→xF,drop_eq_getElem_cons→xI,getElem?_zip_eq_some→xJ,mem_iff_getElem?→xK,lookup_cons→xL,take_append_getElem→xN,nodup_nil→xQ,reverse_reverse→xS,mem_of_mem_drop→xT,getElem?_cons_succ→xV,length_zip→xW,length_reverse→xX,reverse_append→xY,take_length→xh,mem_flatMap→xj,getElem?_drop→xn,getElem?_take→xo,map_replicate→xp,sum_append→xt,getElem_drop→xx,mem_of_mem_take→xz,filterMap_cons→wA,getElem?_range→wB,getElem?_cons_zero→wC,length→wD,find?_cons→wE,length_nil→wF,foldl_append→wG,perm_ext_iff_of_nodup→wH,getElem_inj→wK,all_eq_true→wM,getElem_map→wN,getElem?_eq_none_iff→wO,getLast?_eq_none_iff→wP,extract_eq_take_drop→wQ,replicate_zero→wR,flatMap_append→wS,getElem?_take_of_lt→wU,mem_replicate→wW,filter_eq_nil_iff→wc,take_take→wd,mem_flatten→wm,countP_cons→wo,cons_ne_nil→wp,getElem?_mapIdx→ww,dropLast_concat_getLast→wy,flatten_append→wz,length_eraseIdx_of_lt→ZB,filter_append→ZC,drop_take→ZD,drop_drop→ZE,drop_zero→ZF,getElem?_take_eq_none→ZI,take_sublist→ZK,reverse_cons→ZL,map_drop→ZN,perm_middle→ZP,drop_length→ZR,pairwise_singleton→ZS,length_eq_zero_iff→ZT,cons_append→ZU,foldl→ZW,pairwise_lt_range→ZX,range_succ_eq_map→ZY,zipWith→ZZ,flatMap_singleton→Zc,of_mem_zip→Ze,foldl_cons→Zf,forIn_cons→Zi,countP_map→Zl,dropLast_eq_take→Zm,mem_of_getLast?→Zp,length_pos_iff→Zv,countP_eq_zero→Zw,map_take→Zx,all_cons→Zy,any_cons→Zz,mem_filterMap→Z3,filterMap_map→Z4,length_mapIdx→Z9,set_cons_succ→YA,set_cons_zero→YB,getElem_range→YC,drop_sublist→YF,take_add_one→YI,set_set→YJ,pairwise_map→YQ,sum_nil→YR,getLast_cons→YS,map_reverse→YX,map_fst_zip→YY,flatten_nil→YZ,nodup_range→Yb,ext_getElem→Yc,take_left'→Yf,drop_left'→Yg,filter_map→Yi,range_succ→Yj,forIn_nil→Yn,take_zero→Yo,take_left→Yq,map→Ys
open List.Pairwise renaming nil→xU,sublist→wk
open List.Perm renaming append_left→yS,append_right→xE,trans→xG,refl→xm
open List.Sublist renaming refl→YT
open List.cons renaming inj→Z2
open Nat renaming le_refl→zL,zero_le→zn,ne_of_lt→zy,lt_or_ge→zz,lt_of_lt_of_le→yA,le_trans→yI,lt_succ_of_lt→yX,le_of_lt→yh,lt_succ_self→yj,lt_irrefl→xM,le_succ→xP,zero_add→xZ,not_lt_zero→xr,ne_of_gt→wL,sub_self→wY,le_succ_of_le→wZ,add_assoc→wu,min_eq_left→wx,add_sub_cancel_left→ZQ,min_le_left→Zj,add_one_sub_one→Zs,add_one_ne_zero→Zt,zero_ne_add_one→Zu,lt_of_le_of_lt→Z5,add_sub_cancel→Z7,eq_or_lt_of_le→Z8,lt_trans→YG,le_total→YK,min_le_right→YV,reduceEqDiff→Ya,not_lt→Ym
open Nat.succ renaming inj→xO
open Option renaming bind_some→yW,isSome_iff_exists→yz,map_some→xH,map_eq_some_iff→wX,isSome_map→YM,getD_none→YW,none→Yx
open Option.some renaming inj→zr
open PySem.Heap renaming get?_push_of_some→zE,lt_size→zN,get?_push_size→zU,get?_update_other→zw,size_push→yo,size_update→xi,get?_update_self→xq,SameBut→xu,get?_some_iff→wV
open PySem.Heap.IsSliceOf renaming new→Yy
open PySem.Heap.SameBut renaming update→Zq,refl→YH
open PySem.W renaming Frag→zC,mg_none_of→yJ,nsIn→yd,kia_one→yw,mg_of→xg,keepIn→xl,fnOf→xv,codeIn→w9,methodObj→ZJ,cellsFrom_some→ZV,instObj→Zd,OpenLaw→Zg,lookIn→Zn,kitOne→Zo,kitx_list→YD,kitx_dict→YE,plainGet→YU,findIn→Yk,kIn_of→Yl,WalkO→Yt,kf_at→Yu
open PyProof.Rows renaming wpS_bind→vL,arrOf→vM,wpS_pure→vN,Keyed→vS,SortSt→ve,pendingOf→vf,wpS_forRange→vj,seqObj→uA,wpS_mono→uG,oneType'→uH,IntsAre→uI,failedOf→uT,wpS_modify→ug,SortedTo→um,listUpdate_at→uv,wpS_get→uw,wpS_lift→tG,SBase→tJ,AllBare→tV,mirror_perm→tW,subscriptTail_builtinR→tm,plain_sorted→tq,entry_sorted→tu,envOfC→sF,kind_sorted→sH,args_list_sort→sI,numOf→sK,K_mirror_equal→sL,wpS_reverse→sM,seqEpoch_at→sN,subscriptTail→sT,args_tuple_getitem→sV,args_sorted1→sq,minRun'→su,listItems_at→sw,NonInc→rM,K_bubble→rN
open PySem renaming wpAny_bind→vA,Value→vB,Shared→vC,Addr→vF,wpAny_pure→vG,starEach→vK,FuncData→vO,wpAny→vQ,Program→vU,Expr→vW,World→vY,mainGlobals→vZ,Around→vg,sizeLine_eq→vh,wpAny_ite_split→vi,Heap→vk,Stmt→vm,bootBuiltins→vn,backTo→vo,wpAny_holding→vp,wpAny_newObj_type→vq,wpAny_call_entry→vt,foldedSetIterable→vz,wpAny_mono→v9,swapsWith→uC,keywordEach→uD,builtinLookup_eq_fast→uE,wpAny_setState_of→uF,wpAny_Call_Name_kw→uJ,wpAny_rule→uK,wpAny_setField_rec→uL,behindInMarks→uM,Keyword→uN,backToKw→uO,sysModules→uP,codeAny_builtin→uQ,typeLookup_type→uR,wpAny_updateSeq→uS,attributeBase→uU,plainId_quiet→uV,compareOp→uW,wpAny_passesOwn→uX,wpAny_truthy_bool→uY,assignEach→uZ,wpAny_attempt→ua,pyNext→ub,binaryOp→uc,wpAny_isInstance→ud,wpAny_field→ue,rawInt→uf,NameKind→uh,wpAny_specialOf→ui,codeAny→uj,wpAny_seqItems→uk,codeAny_mono→uo,wpAny_typeOf→uq,scanBound→ur,cLine→ut,wpAny_newList→uu,call_meets→ux,tupleKind_room_in1→uy,sliceBounds→uz,Scope→u4,wpAny_pyIter_list→u5,isSubtype_type→u6,IsPair→u7,wpAny_nextOf_list_item→u8,typeLookup→u9,pickOrder→tD,ZipApart→tF,wpAny_execs_nil→tH,letOwnedTupleGo→tI,intKind→tK,getItem→tM,setNext→tN,PassesOwn→tO,updateSeq→tP,wpAny_fieldsOf→tQ,firstArgMember→tS,isSubtype_stop→tT,wpAny_newTuple→tU,wpAny_comprehension_free→tX,tupleKind→tY,wpAny_askSetting→tZ,wpAny_pyIter_zip→tf,IsPart→tj,wpAny_isTrue_Compare1→t6,wpAny_nextOf_list_end→t8,wpAny_pyNext_zip_item→t9,GenState→sC,wpAny_loadName_local→sD,codeAny_extend_loopS→sG,wpAny_pyNext_zip_end→sJ,callerA→sO,valueAt→sP,wpAny_loadName_cell→sQ,wpAny_standAt→sS,Result→sU,checkCount→sW,Operator→se,BindsTo→sf,slotArgs→si,call_meetsIn→sr,Paired→sx,Drawn→sy,CmpOp→rA,wpAny_of_eq→rB,wpAny_letGo→rC,atKey→rD,hashInt→rF,isTrue→rG,pyIter→rH,argsOk→rJ,raiseNew→rK
noncomputable def vH:=@if_pos
noncomputable def vJ:=@if_neg
noncomputable def vP:=@absurd
noncomputable def vT:=@decide_eq_true
noncomputable def vX:=@decide_eq_false
noncomputable def uB:=@congrArg
set_option Elab.async false
section
local macro_rules|`(∅)=>`(by omega)
local macro_rules|`(⋯)=>`(by decide +kernel)
local macro_rules|`(↥$x)=>`(some (.sh $x))
local macro_rules|`(⇑$x)=>`(by simpa using $x)
local macro_rules|`(tactic|omega)=>`(tactic|lia)
set_option compiler.extract_closed false
set_option hygiene false
def pW':List Char->List Char|' '::r=>pW' r|r=>r
def pC'(c:Char):Bool:=c.isAlphanum||"_'.!?₀₁₂₃".toList.contains c||(c.val>=913&&c.val<=969&&c.val != 955)
def pF'(e:Lean.Term):List String->Lean.Term|[]=>e|s::r=>pF' ⟨Lean.mkNode ``Lean.Parser.Term.proj #[e,Lean.mkAtom ".",if s.front.isDigit then Lean.mkNode `fieldIdx #[Lean.mkAtom s] else Lean.mkIdent (.mkSimple s)]⟩ r
def pN'(l:List String):Lean.Term:=let a:=l.takeWhile (!·.front.isDigit);pF' (Lean.mkIdent (a.foldl (λn s=>.str n s) .anonymous)) (l.drop a.length)
mutual
def pT':Nat->Nat->List Char->Lean.MacroM (Lean.Term×List Char)
 | 0,_,_=>Lean.Macro.throwUnsupported
 | n+1,p,s=>do
  let(a,s)<-match pW' s with
   | '('::r=>do
    let(a,r)<-pT' n 0 r
    let(a,r)<-match pW' r with
     | ')'::r=>pure (a,r)
     | ':'::r=>do let(b,r)<-pT' n 0 r;pure (<-`(($a : $b)),(pW' r).tail)
     | ','::r=>do let(l,r)<-pL' n #[] r;pure (<-`(($a,$l,*)),r)
     | _=>Lean.Macro.throwUnsupported
    pure (let w:=r.takeWhile pC';match r with
     | '.'::_=>(pF' a ((String.ofList w.tail).splitOn "."),r.drop w.length)
     | _=>(a,r))
   | '⟨'::r=>do let(l,r)<-pL' n #[] r;pure (<-`(⟨$l,*⟩),r)
   | '['::r=>do let(l,r)<-pL' n #[] r;pure (<-`([$l,*]),r)
   | '"'::r=>let w:=r.takeWhile (·!='"');pure (Lean.Syntax.mkStrLit (String.ofList w),r.drop (w.length+1))
   | '¬'::r=>do let(b,r)<-pT' n 40 r;pure (<-`(¬$b),r)
   | '-'::r=>do let(b,r)<-pT' n 75 r;pure (<-`(-$b),r)
   | '@'::r=>let w:=r.takeWhile pC';pure (⟨Lean.mkNode ``Lean.Parser.Term.explicit #[Lean.mkAtom "@",pN' ((String.ofList w).splitOn ".")]⟩,r.drop w.length)
   | '∅'::r=>do pure (<-`(∅),r)
   | '⋯'::r=>do pure (<-`(⋯),r)
   | '↥'::r=>do let(b,r)<-pT' n 1024 r;pure (<-`(↥$b),r)
   | '⇑'::r=>do let(b,r)<-pT' n 1024 r;pure (<-`(⇑$b),r)
   | 'λ'::r=>do
    let w:=r.takeWhile (λc=>pC' c||c==' ')
    let xs:=(((String.ofList w).splitOn " ").filter (·!="")).toArray.map λx=>if x=="_" then (⟨Lean.mkNode ``Lean.Parser.Term.hole #[Lean.mkAtom "_"]⟩:Lean.Term) else pN' [x]
    let(b,r)<-pT' n 0 (r.drop (w.length+2))
    pure (<-`(fun $xs* =>$b),r)
   | s=>let w:=s.takeWhile pC';let r:=s.drop w.length;match w with
    | []=>Lean.Macro.throwUnsupported
    | ['_']=>do pure (<-`(_),r)
    | ['P','r','o','p']=>do pure (<-`(Prop),r)
    | ['?','_']=>do pure (<-`(?_),r)
    | '.'::w=>match (String.ofList w).splitOn "." with
     | x::l=>do pure (pF' (<-`(.$(Lean.mkIdent (.mkSimple x)))) l,r)
     | _=>Lean.Macro.throwUnsupported
    | c::_=>pure (if c.isDigit then Lean.Syntax.mkNumLit (String.ofList w) else pN' ((String.ofList w).splitOn "."),r)
  if p>1023 then pure (a,s) else do let(a,s)<-pA' n a #[] s;pO' n p a s
def pA':Nat->Lean.Term->Array Lean.Term->List Char->Lean.MacroM (Lean.Term×List Char)
 | 0,_,_,_=>Lean.Macro.throwUnsupported
 | n+1,f,l,s=>do
  let r:=pW' s
  let e:=if l.isEmpty then f else Lean.Syntax.mkApp f l
  match r with
   | '('::q=>do
    let w:=q.takeWhile pC'
    match q.drop w.length with
     | ':'::'='::q=>do
      let(a,q)<-pT' n 0 q
      pA' n f (l.push ⟨Lean.mkNode ``Lean.Parser.Term.namedArgument #[Lean.mkAtom "(",pN' [String.ofList w],Lean.mkAtom ":=",a,Lean.mkAtom ")"]⟩) (pW' q).tail
     | _=>do let(a,s)<-pT' n 1024 r;pA' n f (l.push a) s
   | c::_=>if "⟨[\"@∅⋯↥⇑".toList.contains c||pC' c then do let(a,s)<-pT' n 1024 r;pA' n f (l.push a) s else if c=='λ' then do let(a,s)<-pT' n 1024 r;pure (Lean.Syntax.mkApp f (l.push a),s) else pure (e,s)
   | []=>pure (e,[])
def pO':Nat->Nat->Lean.Term->List Char->Lean.MacroM (Lean.Term×List Char)
 | 0,_,_,_=>Lean.Macro.throwUnsupported
 | n+1,p,a,s=>do
  let g(k q:Nat)(r:List Char)(f:Lean.Term->Lean.MacroM Lean.Term):=if k<p then pure (a,s) else do let(b,r)<-pT' n q r;pO' n p (<-f b) r
  match pW' s with
   | '-'::'>'::r=>g 25 25 r λb=>`($a->$b)
   | '\\'::'/'::r=>g 30 30 r λb=>`($a\/$b)
   | '/'::'\\'::r=>g 35 35 r λb=>`($a/\$b)
   | '×'::r=>g 35 35 r λb=>`($a×$b)
   | '&'::'&'::r=>g 35 36 r λb=>`($a&&$b)
   | '='::'='::r=>g 50 51 r λb=>`($a==$b)
   | '='::r=>g 50 51 r λb=>`($a=$b)
   | '≠'::r=>g 50 51 r λb=>`($a≠$b)
   | '<'::'='::r=>g 50 51 r λb=>`($a<=$b)
   | '<'::r=>g 50 51 r λb=>`($a<$b)
   | '∈'::r=>g 50 51 r λb=>`($a∈$b)
   | ':'::':'::r=>g 67 67 r λb=>`($a :: $b)
   | '+'::'+'::r=>g 65 66 r λb=>`($a++$b)
   | '+'::r=>g 65 66 r λb=>`($a+$b)
   | '-'::r=>g 65 66 r λb=>`($a-$b)
   | '*'::r=>g 70 71 r λb=>`($a*$b)
   | _=>pure (a,s)
def pL':Nat->Array Lean.Term->List Char->Lean.MacroM (Array Lean.Term×List Char)
 | 0,_,_=>Lean.Macro.throwUnsupported
 | n+1,l,s=>match pW' s with
  | '⟩'::r=>pure (l,r)
  | ']'::r=>pure (l,r)
  | ')'::r=>pure (l,r)
  | ','::r=>pL' n l r
  | s=>do let(a,r)<-pT' n 0 s;pL' n (l.push a) r
end
def tB(c:Char):String:=match c with
|'A'=>r#"Aa PySem.F.args_tuple_add_2 _ _
Ab g.2-g.1
Ac [z,TI,TO,i1,i2,l1,l2]
Ad Around.under_plainId PyProof.Rows.F.plain_set_update_loop _
Ae .lst ys
Af ⟨o.ext.gg,Xe o.ext.gh h2 _,Xe o.ext.hh h3 _,o.ext.new⟩
Ag ⟨_,rfl,vG h⟩
Ah zAJ (lo:=lo) (hi:=lo+nrem) ∅ ∅ ∅ λst4 W4 KK=>?_
Ai valOf ((Xa q0X).getD 0 stD)
Aj valOf ((Xa q0F).getD 2 stD)
Ak uD bt X.env
Al s1 _ _ (s0 _ _ h1)
Am kvsOf ks ce
An (false,eval b X.env)
Ao (MA:List Str)
Ap Y0 Rj XC
Aq Xk 2
At λp hp=>?_
Au xv name qual params body scope dV kV doc pm an cdv ct
Av vF×Obj
Aw (k:Int)
Ax bs.map XJ
Ay Y7 aA
Az Option dh
AA ⟨t,b1,b2 _ _ _ _ _ _ ω1 _ o0 c1 λG1 σ1 H1 o1=>?_⟩
AB ⟨[dH],[]⟩
AC vOf (Y9 oMod (vOf (Y9 oDiv cH (fC (.int 4096)))) kX)
AD min xs.size ys.size<=sizeLine
AE Y0 (dOf aew) (Y0 (dOf (Y9 oIx bZ be)) XC)
AF XL G H
AG X.env.kindOf x=some .cell\/X.env.kindOf x=some .free
AH Wm X pins H a
AI Int->Int->Int
AJ Ext G H G' H'
AK ⟨rfl,_,_,rfl,∅,∅,∅,λi hi=>?_,λi hi hin=>?_⟩
AL ⟨l,b,vs,us,rfl,rfl,Iy,x1.gh _ _ r6,f1,f2⟩
AM ⟨es.length-(n+1),∅,G4,x4,b1,b2,b4,b5,b6,hlt3,rfl⟩
AN s1.heap.objs.size+1
AO XE.toD (Y6 kL ar)
AQ X.mg x=none
AR WF zAN (Y0 cH XC)
AS SetTable.below xs j
AT List cK
AU List Env
AV .int i t
AW ⟨l,_,rfl,x1.hh.free hl,x1.gh.free hl,qe,XB.ints _⟩
AX ⟨_,_,_,rfl⟩
AY λe=>(tK prog w).is x e.2
AZ zAe s.heap z TI TO (uf t) f1
A2 vV 2
A3 vD 3
A4 upd (zBZ H ts us ws) S km
A5 ow.ext.hh.free hpn
A7 I.base.keep b o e n hb hx
A8 λb o e n hb hx=>?_
A9 λb hb=>(hf b hb).1"#
|'B'=>r#"Ba no.ow i ds
Bb [a,b]
Bc XU bB
Bd X.fn x4=true\/X.env.scope.names.lookup x4=some .local
Be PySem.Fin->vC->Prop
Bf (1:Int)
Bg .tup [x,y]
Bh .int x
Bi .int e.1
Bj ⟨⟨_,hS,rfl⟩,PySem.F.args_list_init_2 _ _,?_⟩
Bk ⟨rfl,I.turnedL (t':=s.toks) KS hf⟩
Bl ⟨_,qj h1 h3 hs,λG0 H0 G ω σ H ds Q o e k=>?_⟩
Bm λvs H Q E h=>?_
Bo xc c40 hr b9
Bp q2Y (qN (XE.toV (xc c31 hr (Yz bq (Yz bq fK)))))
Bq mvN bs.length eJ
Br kn++(es.filter iT).map WL
Bs Y9 zBC (vOf aey) (vOf aez)
Bt Y9 oIx eZ be
Bu XQ (gN 2) (XQ (gN 3) X3)
Bv We te aaf
Bw WH λst4 kp4=>?_
Bx SetTable.below t.place slot
By List Int×List D
Bz Gl X x
BA .type T
BB .tup [v1,OO]
BC .dT kvs
BD .builtin "list.extend.loop" ⟨[hZ,iO,res],[]⟩
BE ⟨vs,h1,h2,h3,h4,h5,λk es hk=>?_,λk es hk=>?_⟩
BF uC n8 (some Ui) q3.line X.env=pure false
BG some d
BH Y0 bw XC
BI XX XR es
BJ XB K H ds vs
BK Sum.inl k
BL Option vB
BM .int (f q)
BN (xs.toList.take j).drop l++xs.toList.drop (j+1)
BO ⟨x.gg.trans s1,Kq,x.hh,Jm⟩
BP λf vs=>PySem.call f vs
BQ λe s'=>R (.error e) s'
BR vOf (WF zAN (Y0 eZ XC))
BS vK [e0b] X.env=(false,eval e0b X.env)::vK [] X.env
BT some (.ref A0)
BU arr.toList=P++X++S
BV ["number", "arc", "boxes"]
BW Y0 (dOf (Y8 q2k ah)) XC
BX XE.toD (qM eG (XE.toV (xc c32 hr (Yz mW b9))))
BY Option aY
BZ KV kvs vs
B0 Int->Int->Bool
B1 F.map λe=>D.int (XR e)
B2 .tup ds
B3 .int dQ
B4 .int Cw
B5 .Call (.Attribute o "extend" apos) [e] [] cpos
B6 .Call (.Attribute o "append" apos) [e] [] cpos
B8 (a2.endLine==c2.line)=true
B9 zA hj"#
|'C'=>r#"Ca tJ a₀ st
Cb q1J go gd gf ?_
Cc dOf (Y8 q0y ah)
Ce RelV y u
Cf Kp.refl st
Cg .scr ns
Ch (p,w)::P.zip vs
Ci ⟨rfl,_,_,rfl,∅,∅,∅,b4,λi hi' hin=>?_⟩
Cj ⟨_,_,_,_,_,_,rfl,mD,∅,∅,∅,∅,∅,kp4⟩
Ck σ.set i lO
Cl λe=>z (Sum.inl.inj e)
Cm λe=>vI e.2
Cn λ_=>true
Co λ_ _=>true
Cp zCX M frees wi g tc te
Cq vK [dX] X.env=(false,eval dX X.env)::vK [] X.env
Cr uA "list" xs.toArray 0
Cs uA "list" vs.toArray n
Ct thn (ha q2 pins s σ H _ I h) λus s1 Z_=>?_
Cu q.2-q.1<t
Cv (ma:List Str)
Cw (j:Int)
Cy b=p\/b∈ls
Cz a==uP
CA [D0,↥pK,↥(.int tot),↥cB,GL,↥bS]
CB [.Name x2 q5,.Name x3 q6]
CC [.Assign [U5] JA q6]
CD X8 bn
CF I.base.free b o e n hx
CG Around.under_plainId PySem.F.plain_extend_loop _
CH .Call (.Attribute bW "append" a2) [e1] [] c2
CI (x1.trans x2).trans x3
CJ (plc h l bs).map D.int
CK (T0++T1)++B
CL ((0:Nat):Int)
CM ⟨?_,?_,fT,fT⟩
CN zAy (tBM K "list" WN (Xk 4) aeA)
CO zAy (tBM K "list" WN LV aeA)
CP vOf (Y9 oPow (fC (.int 10)) (fC (.int 39)))
CQ vK [a] X.env=[cz]
CS s.heap.get? it=some (Wc (.int slot 0) i a n ep)
CT rows.length<=1000
CU [some (W.sh pi),↥aU,none,none,none,none,none]
CV ["start", "arcs"]
CW X.mg "zip" = none
CY FnOk X.prog X.w X.K X.mg X.base CX k f fd ps sp
CZ .ref I"#
|'D'=>r#"Da ⟨us,[]⟩
Db ⟨none,none,none,rfl⟩
Dc ⟨.ref _,_,I2,rfl,q _ ab0⟩
De λi i1 i2=>?_
Df zBa M frees σ
Dg uM op b=false
Dh uF go gd gf ?_
Di tN a slot i ep
Dj swapsWithSole [tg] e pos.line X.env=pure false
Dk some_ _ _ _ k6
Dl qd (q0G q hn)
Dm ls.map λx=>V.ref x.1
Dn lo+i
Do dOf (Y8 qT ah)
Dp [e,(e.2,e.1)]
Dq ["start", "goal", "gap"]
Dr XE.toD (xc c54 hr ak)
Ds TP X pins σ Q
Dt Gl X "sorted"
Du Cal X.prog X.w X.K X.mg X.base k f fd x ps 1 m
Dv Cal P w K mg base 8 fc48 dc48 "knots" ao 3 q0y
Dw Cal P w K mg base 5 fc28 dc28 "stops" ao 3 q0h
Dx .ok (.ret res)
Dy .int ds.length
Dz (sts as).Perm (gls as)
DA ⟨ts.length-(n+1),∅,ls,b1,b2,b3,hlt,rfl⟩
DB some cM
DC q1a rfl
DD Cal P w K mg base 1 fc40 dc40 "cost" ma 1 q0c
DE .ref b
DF (.nx,ω)
DG .int q.2
DH .fr ds
DI ⟨σ',H',I.unwish,q⟩
DJ ↥(.lst (g.map D.int))
DK xc c16 hr (Yz bq Y2)
DL vOf (Y1 6)
DM upd H p jm
DN thn jT λv s1 Z_=>?_
DO thn (hc pins s σ H _ I h) λd s1 Z_=>?_
DP tW _ _ _ _
DQ start N vs
DR spliced ((false,eval _ X.env)::vo q1 ck)
DS qo (i:=4) qO.nd rfl (Or.inl rfl) Oc
DT pre.map WL
DU o2.free no (T2.gl l n1).1 (T2.gl l n1).2
DV inW M frees ω
DW hl pins s σ H _ I h
DX hi pins s σ H _ I h
DY entry 4 ds
DZ dOf (Y9 WC aH (vOf (Y8 q0C (Y0 bw gz))))"#
|'E'=>r#"Ea dOf (Y1 6)
Eb ZSt h0 S z TI TO i1 i2 l1 l2 xs ys ts s.heap
Ec X.mg "enumerate" = none
Ed Within lo hi a b
Ee WS bs q
Ef Mh al bl out i j
Eh Mg al bl out i j
Ei K w.params
Ej It->Hp->Prop
Ek Fun K "groups_below" "groups_below" q0w f fd
El .dic ks ds
Em .Slice lo hi none p2
En .Assign [bV] aV spos
Eo ⟨rfl,_,_,rfl,∅,b2,∅,λi hi'=>?_,b5⟩
Ep zN e
Er vD 5
Es vD 4
Et thn (ha pins s σ H Q I h) λc s1 e=>?_
Eu (some r,z)
Ev some (.pw ds)
Ew some (.ow es)
Ex sb2.extBut _ _ n2 EQ
Ey s.heap.get? it=some (Wc adA i a n ep)
Ez (rs.length:Int)
EA pv 1
EB pv 0
EC cutD ds lo hi
ED ["arcs"]
EE XY eb ?_
EF Wx ks xss a b
EG Wc (.int (slot 0:Nat) 0) 0 a es.size ep
EH Ok ts es
EI Mh a.toList b.toList out.toList (i+1) (j+1)
EJ Array Nat
EK .Call (.Name "enumerate" ep) [o0] [] ec
EL λh' c' kp e=>fin its r' hz h' c' kp e
EM vOf (Y9 oDiv aH kX)
EN uA "list" ks e
EO typeOf jW=pure (.type "method_descriptor")
EQ sb1.extBut _ _ n1 e
ER sIx items.size 0 lo
ES q6t h2 q6l q6b q5W ht
ET ow.gh.free hpn
EU es.length<64
EV e=x\/H e=some (.own x)
EW [some pi,LH,none,none,none,none,none]
EX XE.toD (Y6 (XE.toV (Y6 kL Vz)) ar)
EY Option vW
EZ D.pys (b.map D.int)
E4 D.pys (a.map D.int)
E5 .lst (gs.map Oh)
E6 .lst (as.map V.ref)
E7 .int ys.length
E8 .int (q.2-q.1)
E9 .bl (zCU (tyD d) c)"#
|'F'=>r#"Fa .Call (.Name "enumerate" p) [a] [] pos
Fb (cst row).map D.int
Fc (L.map f).map D.int
Fe λi j h2 h3=>?_
Ff λb o e=>PyProof.Rows.sortedAll_old e
Fg λG0 H0 G ω σ H ω' ds E ow e hi kk=>?_
Fh spRs K q8B q8C q8H q3I q1k q1l qF q8E
Fi nrem<=a₀.size
Fj bs.length<=1000
Fk as.length<=9000
Fl ["script"]
Fm XI X tg iter fi
Fn PyProof.Rows.sortedAll s.heap its out
Fo OpR X (uW op) r
Fp ⟨.bl _,H,I,rfl,q⟩
Fq λz=>?_
Fs zBz xs lo hi
Ft zAr hr.units hW ar
Fu ys.map D.int
Fv upd H p o
Fw upd H a o
Fx upd G l (.frz ob (.dK (kvsOf ks0 vs)))
Fy some true
Fz sa+(na-1)
FB s.heap.get? t=some ot
FC s.heap.IsList l items
FF ps.zip us
FH now.ow i ds'
FJ neC b o e hx
FK k=true->stepW I μ (μ ω) J (fb ω)
FL dOf FP
FN as.map Y4
FP Y9 oIx eZ aW
FQ XY eb (vL (XY ea (vL (zBF hk' ?_))))
FR XD.toE (XE.toD (q2f hr.units lU jF))
FU We td (Xn 5)
FV SqT.of jK
FY Option Int->Hp->Prop
FZ Option Bool->ve->Prop"#
|'G'=>r#"Ge Kn h l bs
Gg Fun K "neighbours" "neighbours" q1X f fd
Gh Builtin.List.listLengthHint (.ref r)
Gi .type "list"
Gj .lst (ties.map Y4)
Gm .Subscript a b pos
Gn (qX _).mpr (.inr (.inr ⟨b,hb,bC⟩))
Go (Xq f pre).1 e.1==(Xq f pre).1 e.2.1
Gp ⟨_,_,_,_,_,_,rfl,mD,∅,j1,∅,kp4⟩
Gr λ_=>rfl
Gu zAg XC
Gv zA hj2
Gw x.above y c (PySem.mem_of_lookup h)
Gx vvP fO
Gy kkP fO
Gz h n st1 b1 b2 aa4 S
GA (d,ω.set i (some (.ow ds.dropLast)))
GB XE.toD (Y6 pT (XE.toV (q02 i9 jy)))
GC Wc (.int (slot i) 0) i a es.size ep
GD .vw ds
GE (.nx,ω.set i (some (.ow (ds++ds'))))
GF .int cR
GG ⟨rfl,of,2*of+1,rfl,∅,hb,∅,∅⟩
GH ⟨none,rfl⟩
GJ ⟨j,∅,h2⟩
GK ⟨_,jt,rfl,_,rfl⟩
GL ↥(.int t)
GM ω.set i ↥(B x)
GN λi ks ds' hi=>vP hi (now.od i ks ds')
GO λH i s hi=>?_
GP zAi (X8 (dOf (zAl aH))) R3 q2o
GQ x1.gg.trans x2.gg
GR w.params.followText "set-order" = true
GT vp ?_
GU upd H l adD
GV some di
GW some (.od ks' es)
GX s1.heap.objs.size+4
GY qu iE
GZ q5l I.hok eb
G8 pv i hN hv hd hcd
G9 ks.zip vs.toArray"#
|'H'=>r#"Hd (ks,ds)
He ks++[k]
Hg kn.length<=900
Hh k<as.length
Hi its.toArray.size+its2.toArray.size
Hj items.size<=sizeLine
Hm intKind_is _ _ _ _
Ho gT 2 cv
Hq entry N.length ds
Hr d.params.defaults=[]
Hs [none,none]
Ht [.tup [ib,jJ]]
Hu Y5 st
Hv X.A.units+1<ut
Hw Wm X pins H kS
Hz Unit->ve->Prop
HA Str->Option uh
HB Room (k+2) X.A
HC Option Bool
HD OpV X.K r o
HE Obj.putSet es' t'
HF List V->Hp->VK->Prop
HG List (Key×vB)
HH HOk X.prog X.w H' h'
HJ Fun K x qual st f fd
HK ForInStep.yield r
HL Bool->ve->Prop
HM (0:Int)
HN .ref sl
HP (.nx,ω.set i (some (.ow (ds++es))))
HQ .lst cN
HR .Name x q
HS .Call (.Name "range" p) [a] [] pos
HU .Call abe [dX] [] q1
HV (XZ ks).map D.int
HW (XU ns).map V.int
HX ⟨rfl,lo,of,rfl,b1,b2,b3,.inl ∅⟩
HY ⟨_,_,_,_,_,rfl,m2,∅,d2,∅,kp'⟩
HZ ⟨_,_,_,_,_,rfl,m2,d1,∅,∅,kp'⟩"#
|'I'=>r#"Ib upd G' l gL
Ic ue hz rfl (x:=.bool false) rfl ?_
Id tQ e rfl ?_
Ie tOp r ta tb
Ig qj a (qj b (qj c qq rfl) rfl) rfl
Ih lo+k-(lo+l)
Ii fC (.int 8)
Ij es++[(p,q)]
Ik as++[(l,h)]
Il S.filter iT
Im List zAf
Io .int n
Ip ⟨rfl,lo,of,rfl,b1,b2,b3,.inr hb⟩
Iq ⟨rfl,lo,hi,rfl,∅,b2,∅,b4,b5⟩
Ir ⟨o,e⟩
Is ⟨[],H,I,.nil,h⟩
Iu λx y H Q=>r x y H Q\/r' x y H Q
Iv λb ob q=>zE _ q
Iw zI ne
Ix ys.length<=sizeLine
Iy x1.hh _ _ r2
Iz uC cO none q10.line X.env=pure false
IA u8 a1 b1 hx λh₂ c1 sb2=>vG ?_
IB swappedStores [tg] e X.env=pure none
IC some (.ow ((plc h l pre).map D.int))
ID some (.od F (WW F))
IE qA qw q08 rfl z17 q0b VH
IF putK kvs p.1 p.2
IG pre++[d]
IH h h' tk d _ ys hk (zN hS') y1 y2
II ds.length=xs.length
IJ a2.trans qz.symm
IK [s1.heap.objs.size]
IL [rn,none,none,none]
IM [.int p.1,.int p.2]
IN ["thing", "wanted"]
IO ["thing", "places", "ties", "edges"]
IP ["thing", "beside"]
IQ (["box"]:List Str)
IR ["arcs", "numbers", "number", "arc"]
IS Yz mW (Yz pU (Yz A3 V8))
IT Yz Y3 Y2
IU Y9 o f g
IW Y0 bw (Y0 fj (Y0 ff aad))
IX Xt 4 (Xi 1 [3] (X8 fj) iF qZ qY)
IY XE.toV (Y6 eG (XE.toV (qe0 ar)))
IZ X1 f a b"#
|'J'=>r#"Ja (Sum.inl:Int->Key)
Jb SqL.of hq
Jc PE X b tb
Jd Option vF
Je .int lo t
Jf .int hi u
Jg .frz ob (.dK Am)
Jh (es.take (n+1)).foldl Ro rT
Ji ⟨rfl,lo,of,rfl,b1,b2,b3,Ng⟩
Jj ⟨a,vs,h1,e _ _ h2,TQ⟩
Jk ⟨[jj],[]⟩
Jl λj fs hj=>?_
Jm λb z1 z2=>?_
Jn xM _
Jo x13.trans (Ext.hide x3.gh hn _)
Jp uC e none pos.line X.env=pure false
Jq uC cZ none q9.line X.env=pure false
Jr lo+t
Js lo+j
Jt a2.extBut sb2.extBut D.i12.symm
Ju WY _
Jv Tells ts kn f
Jw Tells ts es f
Jx Mh a.toList b.toList out.toList i j
Jy List (TE×TE)
Jz .ref D
JA .List [] q4
JB .Call (.Name "zip" p) Bb [] pos
JC (wK T.nd).mp (j2.trans i2.symm)
JD ⟨e2,lo,hi,rfl,b1,b2,∅,b4,b5⟩
JE ⟨e,?_⟩
JF λx1 x2=>x1++x2
JG λi j hij hj=>?_
JH λi j es fs l e=>vP e (qK.ow i es)
JI λh=>hc iM
JJ λa ha=>?_
JK λ_ _ q=>zE _ q
JL zCN s₁.heap H
JM (x,NameKind.free)
JN upd H2 p (.dK (kvsOf [k] [v]))
JO tN a (slot es.size) es.size ep
JP some_ _ _ _ y7'
JQ some (.ow (pre.flatten.map D.int))
JR qbt hz ht λh' f1' hz1 sb1=>?_
JS q5B hd h2 h4
JT q2z lU (Xl (Yz jF (Yz jF Y2)))
JU q0K eG z23 rfl z11 rfl z21 q1A
JV q0K eG z19 rfl z11 rfl z18 q4I
JW over p q g
JX (none,lo,of)
JY (none,lo,hi)
JZ (n,NameKind.cell)
J0 hm b _ q λz=>z
J1 h1.trans z
J2 h hi c2 (λi hi'=>c4 i ∅) c5
J3 gwt h l bs
J4 g3 _ _ r4'
J5 f AV (.int j u)
J6 dOf (Y8 q03 ah)
J7 [w0,w1,↥bL,nv,oO,none,none,none]
J8 [(t,l,as)]
J9 ["script", "most"]"#
|'K'=>r#"Ka ["ahead", "bound"]
Kb Z.keep b o hb e
Kc X.mg "list" = none
Kd Str.ofString "__length_hint__"
Ke SqL.of h1
Kf SqL X.K H p ys\/SqT X.K H p ys
Kg RA.take k++r.toList++RB.drop m
Kh Or.inr rfl
Ki Loc X.env.scope x3
Kj Loc X.env.scope x2
Kk .tup (k.map kV)
Kl .int i::vs
Km ⟨oX,⟨_,O5,rfl,n,rfl⟩⟩
Ko λi ks es e=>vP e (qK.od i ks es)
Kq λb u z=>?_
Kr λb o z y=>hs'.extBut b o z y
Ks λG0 H0 G ω σ H r Q ow e kk=>?_
Kt ue hz rfl (x:=.ref TI) rfl ?_
Ku u5 (items:=its.toArray) oj ?_
Kv s2.trans s5
Kw q2t qq
Ky lo+x-1
Kz lo+n-1
KA k::ks
KB gn _ ((L4.new x hx).2.2 a ha).1
KC [rn,none,y2.map W.sh,y3.map W.sh]
KD [none]
KF WZ hl
KG PySem.F.args_dict_get_3 _ _ _
KH (.nx,w)
KI .dK kU
KJ .dK []
KL ((sIx items.size 0 lo:Nat):Int)
KM ⟨O8,H2,I2,.cons r1 r2,q2⟩
KN ⟨rfl,rfl,rfl⟩
KO ⟨rfl,0,1,rfl,∅,hr,∅,∅⟩
KP ⟨G,dC,o⟩
KQ λx=>V.ref x.1
KR λi ds h=>vP h Ba
KS λb o hb e=>?_
KU λG0 H0 G ω σ H r Q ow e k=>?_
KW zH _ he
KY zBb.flatten++S
KZ vs.length<64
K0 vH y
K1 uc .Add
K2 u7 s.heap TI Qz Qy
K3 some_ _ _ _ k7
K4 some ds
K5 s0.trans x2.gg
K7 (out,ω')
K8 (none,a₀.size)
K9 lo+nrem"#
|'L'=>r#"La ks.length<1000000
Lb (items.size:Int)
Lc hr pos pins s1 σ H1 _ I1 q1
Ld h2 G0 H0 G ω σ H d Q o e k
Lg blw r.1
Lh [.str "box", GF,.int jg,.int pb]
Li ["left", "right"]
Lj ["home", "last", "boxes", "gap"]
Lk W1 (Y0 (dOf (Y8 q0j aR)) Ap)
Ll Vw K G H d v
Lm Fun K "reason" "reason" q0X f fd
Ln Fun K "levels" "levels" q4M f fd
Lo Fun K "groups" "groups" q4a f fd
Lp F.pin i
Lq A.units+1<ut
Lr .type "list_reverseiterator"
Ls .ref fa
Lu .BoolOp .Or (a::b::rest) pos
Lw (wJ.mp h.perm).mem_iff.mp hp
Lx (es.take n).foldl Ro rT
Ly ⟨⟨o,e,ex.1⟩,λa e2=>?_⟩
Lz ⟨p,ns,rfl,g1,hz,acn⟩
LA ⟨G2,aat,q2.mono s0⟩
LB λs t h1 h2=>zBg sb ∅ ∅
LC λs t h1 h2=>zBg sa ∅ ∅
LD λi s hi go' A' Q' E' q=>?_
LE λG0 H0 G ω σ H b Q o e k=>?_
LF uU o name X.env nR=eval o X.env
LG sub x c e
LH some v1
LI qbV hc hN hi' hx B h1 b4 hsw hs
LJ pv 4
LK nbT ts es
LL lo+n
LM lo+k
LN es.map Y4
LO b2.extBut sb2.extBut D.l2i1
LP a++b
LQ [D.tup [D.int one,D.int other]]
LR [0,1,2]
LS ["gap"]
LT Xo as j=v
LU Xk i
LV Xk 3
LW Xk 1
LX Xk 0
LY XL H H'
LZ XE.toV (q2f hr.units EA bq)
L0 XD X e f
L1 Option R
L3 List dy
L5 .str x
L6 .lst accv
L7 .int 1 v
L8 (ts.take (n+1)).map λ_=>[]
L9 (a₀.toList.take x).drop b"#
|'M'=>r#"Ma ⟨p,_,s32,T3.dict,λob=>?_⟩
Mb ⟨aO,r1,p,_,rfl,g,_,rfl,?_⟩
Mc ⟨_,SqL.of (o2.gh _ _ r4')⟩
Md ⟨[nH, a],[]⟩
Me λj ks fs hj=>?_
Mf (xs.length:Int)
Mi xF.mpr iH
Mj vK [e1] X.env
Mk vJ y
Ml upd H5 D (.lst (acc++[v]))
Mm upd (zBZ H1 ts xs ys) S km
Mn some (.ow Mt)
Mo some (.od (kkP pre) (vvP pre))
Mp row.map D.int
Mq qu (XE.toD (xc c42 hr ak))
Mr qd (na q)
Ms q<=g.1\/g.2<=q
Mt parts.map gLD
Mu p<=g.1\/g.2<=p
Mv kn++es.map WL
Mw k _ G1 H1 x1 rfl
Mx h0.objs.size<=s.heap.objs.size
My (as.length:Int)
Mz ["parts"]
MA ["bound"]
MB XX (zBv m) ds
MC (Sum.inr a:Key)
MD SqL.of jK
ME SqL.of hq3
MF SqL K H p ys\/SqT K H p ys
MG PT X a tA
MH PE X o td
MI Moved.eq_with hm
MJ List D->Option R
MK L.map λq=>D.tup [Qp,BM]
ML I.freeC x c e
MM Gl X "enumerate"
MN Env0 P w K mg base A outer s H
MO .tup [ab9,aa7]
MP .lst iZ
MQ .lst gm
MR .lst (xs++zs)
MS .lst ((Pz h l bs).map D.int)
MT .inr rfl
MU ⟨t,rfl⟩
MV ⟨_,SqL.of aee⟩
MW ⟨H,I,q⟩
MX ⟨?_,?_⟩
MY λj k es fs m hj hk sj sk=>?_
MZ λi d h=>?_
M0 zI ne'
M1 ts.map λ_=>([]:List Int)
M3 take_one hp
M4 some k
M5 e.hh _ _ h2
M6 ds.length+ds'.length<=1000000
M7 SeqAt.canLay_of_shaped h4
M8 SeqAt.canLay_of_shaped h3
M9 PySem.F.typeCall_list_1 _"#
|'N'=>r#"Na P.length=s0
Nb KT H kvs xs
Nc Int->Int->V
Nd H a=some cj
Nf .int many
Ng .inl z
Nh .fr ((Xq f BI).2.map egD)
Ni .bl b
Nj .Constant (.bool b) j pos
Nk .BoolOp .Or (b::rest) pos
Nl (xs.toList.take j).drop l
Nm ⟨z.1,ht _ _ z.2.1,z.2.2⟩
Nn ⟨v,H,I,r,h⟩
No ⟨dd.typeIs,λb q=>?_,hd⟩
Np ⟨_,ho2,rfl⟩
Nq λ_ q=>q
Nr zy hlt
Nt zo (arA h l bs F).length
Nu zDD Wh
Nv zAT f ks
Nw y1.mono x2.gg
Nx xs++ys
Ny wpS_ltK b1 h0 ∅ ∅ ?_
Nz vR ((atI FN k).map R.sh)
NA vK [e] X.env=dW::vK [] X.env
NB vK Bb X.env=cz::vK [b] X.env
NC ts.map V.ref
ND some (.ow (gs.map gD++[oy]))
NE s _ _ h3
NF rts bs q+lfs bs q+zAP dQ
NG qd hm
NH q4k ry
NI q2Y (q49 (XE.toV Bo) kL)
NJ q17 I hg hm hv ?_ hn hdb
NK putK kvs k v
NL nmP (k+1) gs
NM lo+hi
NO ks.map D.int
NP ho pins s1 σ H1 _ I1 q1
NQ hf pins s2 σ H2 _ I2 q2
NR he pins s1 σ H1 _ I1 q1
NS hb pins s1 σ H1 _ I1 q1
NT h pos pins s σ H _ I hq
NU fe ω
NV fa ω
NW eval e X.env
NX byS as n
NY a.size-1
NZ [.str "go", .int jg,.int pb]
N0 ["script", "k"]
N1 (["gap", "lack"]:List Str)
N2 Yz mW (Yz pU (Yz A3 b9))
N5 Yz (vD 7) Y2
N6 Y9 oIx dq be
N7 Y9 oIx dq aW
N8 Y9 oIx bF aW
N9 Y0 ff XC"#
|'O'=>r#"Oa Y0 bw (Y0 fj (Y0 ff gz))
Ob Y0 bF XC
Oc Xy Y2
Od Xt 3 (eOf (dOf (X9 kD)))
Oe Xm ta (Xm tb (Xm tc Wh))
Of XY eA ?_
Og XX XR mV
Oh WS bs
Oi W0 kvs k
Oj (Value.int (K b jB) t2,q2)
Ol (Value.int (K b j2) t2,q2)
Om V->Hp->VK->Prop
On PI X tg iter wi
Oo Obj.mapSeq f
Op IV a₀ st lo S
Oq F.map WL
Os F.args_list_extend_2 _ _
Ot Array DictEntry
Ou .sh .non
Ov .own a
Ow .fr ((XZ p.1).map D.int)
Ox .For tg iter body [] pos
Oy .Compare a [.Lt] [b] pos
Oz .Compare a [.Gt] [b] pos
OA .Compare a [.Eq] [b] pos
OB ⟨l,vs,e1,qe,e5.mono s1⟩
OC λi j ds' es l hi=>vP hi FH
OD λi es e=>vP e (qK.ow i es)
OE λe h=>he e (yL.mp h).1
OF xP _
OG uA "tuple" xs.toArray 0
OH rows.map λr=>D.int r.1
OI q5E (i:=3) qO.nd rfl aC
OJ h n st hB n1 n2 n3 same
OK bs.map λp=>D.int (f p)
OL ["places", "ties", "edges"]
OM ["numbers", "one", "other"]
ON XE.toD (q7r rfl z26 eG)
OO .ref q
OP .fr ((cst q).map D.int)
OQ (ts.take n).map λ_=>[]
OR (ts.take 0).map λ_=>[]
OS (((hi-lo).toNat:Nat):Int)
OT ⟨rfl,l,l,rfl,c2,c4,c5⟩
OU ⟨q,hq⟩
OV ⟨_,rfl,r1⟩
OW ⟨_,jt,rfl⟩
OX ⟨_,hz,rfl⟩
OY ⟨_,ho,rfl⟩
OZ σ.set 6 eI
O0 λy hy=>?_
O1 λc v hc q=>k c v ?_ q
O2 λ_ _ _ q=>q
O3 zS _ (zS _ (q2Q z eo))
O4 zS _ (zS _ (q2Q hb e))
O5 zE _ e
O6 zCq 0 rows
O7 y2.after x1
O8 x::xs
O9 vJ hb"#
|'P'=>r#"Pa upd H3 p l0
Pb t<X.length
Pc (sa,na+nb,pw)
Pd s.heap.IsListIter i2 l2 k2
Pe s.heap.IsListIter i1 l1 k1
Pf r.append r2
Pg qg (i:=5) qO.nd rfl aC
Ph q9H hu o7 VM Kw mN
Pi (none,o2,i2,j2,g2,ac,bc)
Pj (none,i2,j2,o2,g2,ac,bc)
Pk kn++(Xq f es).2.map WL
Pl hout b y
Pm h.objs.size<=a
Pn g1.trans g2
Po fs.lookup f
Pp frs X.stack
Pq fC (.int 9)
Pr ds.map λd=>D.bl (q d)
Ps canT X.K fc
Pt canG X.K fg
Pu canD X.K fe
Pv bl.take j++out.reverse
Pw [aw,dl,dY]
Px [Bi,.int e.2.1,.int e.2.2]
Py [.Expr cZ q9,.Expr cO q10]
PB Xf xs vs
PD Xf xs us
PF XT X a f
PH XB X.K G ds xs
PJ U.Perm (n::U')
PL Option (vB×Nat)->vC->Prop
PM Ok ts kn
PN List Key
PP Lf K G H p q v1 cn ls rs 0
PQ IntKeys eR
PR Int->Int->Prop
PU Gl X "zip"
PV .type "zip"
PX .tup [cB,eu]
PY .int q.2.1
PZ .int e.2
P0 .int (kf d)
P2 .AugAssign bV op e pos
P3 .Attribute o name apos
P4 (a1.endLine==c1.line)=true
P5 ⟨rfl,l,rfl,∅,b4,b5⟩
P6 ⟨G2,_,_,_,_,_,S2,run⟩
P7 λp=>decide (p.1<p.2)
P8 λhx=>m.leb x hx y nr
P9 λhx=>m.lea x hx y nr"#
|'Q'=>r#"Qa zc.mpr ⟨sA,sB,fT⟩
Qb vs++dvs
Qc vH h1
Qd spLv K q3I q1k q1l qF
Qe some fQ
Qf some bV
Qg some DH
Qh qL hN i2 l2 q4y s1 f2
Qi ns.getD (1+k).toNat 0
Qj ks++[a]
Qk keep _ _ (Ne.symm npl) h1
Ql (g.2,g.1)
Qm (g.1,g.2)
Qn Xo eJ n
Qo Xl (Yz bq (Yz bq Y2))
Qp XJ q
Qq XE.toD (xc c44 hr b9)
Qr WZ hl2
Qs WI eJ n
Qt WG ω
Qu Str×vB
Qv Srt al
Qw .type "StopIteration"
Qx .tup vs
Qy .ref i2
Qz .ref i1
QA (.nx,ω1)
QB .int most
QC .inr bC
QD .builtin "isinstance"
QE (hs.2 b (zy pC)).trans e1
QF (emA h l bs F).map XJ
QG ⟨∅,∅⟩
QH ⟨∅,rfl⟩
QI ⟨v,h1,h2⟩
QJ ⟨m',hm,σ3,H3,I3,w3⟩
QK ⟨_,rfl,r⟩
QL ⟨G0,H0,G,ω,d,o,e,k⟩
QM ⟨0,0,0,0⟩
QN ω.set i di
QO zo es.size
QP z.sameBut hs (cne y c e)
QR vOf (Y1 7)
QS upd H l iD
QT upd H l Ae
QU uI ks.toList (ds.map kf)
QV thn l6 λv s1 Z_=>?_
QW thn l6 λu s1 Z_=>?_
QX thn dj λv s1 Z_=>?_
QY thn dj λc s1 Z_=>?_
QZ tC dM
Q0 some (.ow l7)
Q2 some (.ow (ds++[d]))
Q3 share i ω
Q4 rts bs q
Q5 r.1-a
Q6 ow.keep x1
Q7 over q p g
Q8 lfs bs q
Q9 l.most=some n"#
|'R'=>r#"Ra hf _ k rfl rfl k0 k1
Rb h pins s σ H _ I hw
Rc gn _ (L4.new x hx).2.1
Re ft ω
Rf entry n ds
Rh dOf (Y1 9)
Ri dOf (Y1 8)
Rj dOf (Y1 7)
Rk ([]:List vF)
Rl ([]:List Av)
Rm [(one,other)]
Rn ["home", "last", "arcs"]
Ro Xx ts
Rp X8 ff
Rq SetTable.below t.place j
Rr RA.drop k++RB.take m
Rs List Key×V
Rt J.stop i H'/\Q Jz H'
Ru I1.kept (t':=s1.toks) hk
Rv Cls ts es g a
Rw .ref s3.heap.objs.size
Rx .int 0
Ry .fr ((Y7 Bc).map XJ)
Rz .While c body [] pos
RC .BoolOp .And [a] pos
RD .BinOp a .Mult b pos
RE ((sIx n n hi:Nat):Int)
RF (Xa q0F).getD 10 stD
RG (XX XR es).filter iT
RH ⟨.int oP,H,jG,bD,q⟩
RI zAg (Y0 (W1 kg) XC)
RJ x-rX
RK vo pos nu=dW::vo pos ck
RL vV 5
RM vOf (Y9 oMod aH kX)
RN vG (wpAny_throw ?_)
RO vD 6
RP tupleItemsOf_ ht ?_
RQ storeName X.env x u
RS s0.heap.objs.size+4
RT s0.heap.objs.size+3
RU s0.heap.objs.size+2
RV s0.heap.objs.size+1
RW q4b 2 (qy (q0e h5))
RX (none,o',i',j',ac,bc)
RY (none,i',j',o',ac,bc)
RZ k-lo
R0 intBits_le_64 h1 h2
R1 gN i
R3 gN 5
R4 es.size=n
R5 [a,b,c,d]
R6 ["moves"]
R7 ["level"]
R8 ["found"]
R9 ["boxes"]"#
|'S'=>r#"Sb XD X k fk
Sc X8 (dOf (Y8 qS ah))
Sd X7 w
Se Wb i3 k3 ∅ ∅ ?_
Sf Wb h0 hk ∅ ∅ ?_
Sg PA X kw t
Sh Option eX
Si List Bool
Sj List (V×V)->Hp->Prop
Sk .lst gG
Sl .lst (bs.map D.int)
Sm .Dict [M4] [e] dpos
Sn .Call oK [e] bt pos
Sq .BoolOp .Or [a] pos
Ss (xs.filter q).map F
Su (ls++[q]).map V.ref
Sv (ls++[l]).map V.ref
Sw (ds.filter q).map F
Sz (S2.keep x1).setH _
SA ⟨rfl,λ_=>trivial⟩
SB ⟨rfl,vs,SqL.of r2⟩
SC ⟨rfl,pB⟩
SD ⟨rfl,?_⟩
SE ⟨q2S t _,rfl,xm _⟩
SF ⟨[u],[]⟩
SG ⟨[a],[]⟩
SH ⟨Zk _,rfl,rfl,rfl⟩
SJ λi=>bs.getD i false
SK λi ds e=>?_
SM zV _ z
SN zAM X.K r op
SO xss++[[]]
SQ x++[b]
SR vY->vk->Prop
SS vT hc
ST upd H x o
SU uF go gd T.fits gr
SW uF go gd T.fits ?_
SX ts.length-F.length
SY trT K zCt
SZ tOf (Y9 oLt BR bZ)
S4 tN a (slot i) i ep
S7 some m
S8 s.heap.get? tp=some ot
S9 qc q8D"#
|'T'=>r#"Tk qaL (xc c25 hr ak)
Tl q5j hr.units Er lU
Tm q2f hr.units EB Es
Tn (p.1,p.2.1)
To ns.length<64
Tp model P w
Tq kv.1=k
Tr ks.map kV
Ts keep _ a1 a2
Tt i+1<P.length
Tu h5.mono e.gg
Tv dOf (Y9 oIx bF be)
Tw bG->vk->Prop
Tx a₀.toList.take x
Tz a₀.toList.take n
TB [aw,aT]
TC [aO]
TD Y8 q0c gz
TF Xz (hs _ _ hi' hin) hc
TH Xy (Yz (Xl fF) Y2)
TJ XE.toV kc
TK XE.toV (qeq ar ar)
TL XE.toV (q0B eG ar)
TM XD.toE lI
TN XD.toE Y3
TQ XB.mono e h3
TR XB K G es us
TU SqL.of Al
TV RA++RB
TW PIE X pins σ tg R
TX List kO
TY List jb
TZ List dw
T7 Key×V"#
|'U'=>r#"Ua Itz K a b
Ub ForInStep.yield ok
Uc B++[k]
Ud .ref s1.heap.objs.size
Ue .ok .next
Uf .lst _
Ug .ext (setP w S ns)
Uh .dK (putK kvs k z)
Ui .Name x2 q2
Uj .Constant iR j pos
Uk .Constant L5 j pos
Ul .BoolOp op [a] pos
Um .Assign [tg] e pos
Uo (uZ es X.env).length=n
Up (g3.trans g5).trans g6
Uq (byS as n).1++[jg]
Ur (b-a)*d b+ws d b C
Us (b-a)*c b+ws c b C
Ut ⟨u,r1,r2.mono s1⟩
Uu ⟨this.1,this.2.1⟩
Uv ⟨_,es',ep',hL,r'⟩
Uw ⟨G5,ω3,o5,Kv,f2⟩
Ux ⟨G4,ω3,o4,gg,e1⟩
Uy λv _=>v=.bl true
Uz λj y v' e1 e2 e3=>?_
UA λhab=>vP ⋯ hab
UB λa b=>XR a<=XR b
UC λ_ H Q=>Q true H
UD zr e
UE zA hlv
UF x2.gg.trans x2.gh
UG wpAny_load hS' ?_
UH tOf (Y9 lh dq bF)
UI spGb K q1k q1l qF
UJ some (.od Gd (WW Gd))
UK s1.heap.objs.size+3
UL s1.heap.objs.size+2
UM q0l.mem_iff.mp ht
UN o2.ext.hh.free hl
UO ns.map PyData.int
UP k _ _ (Ne.symm s1) e2
UQ k _ G H dZ (hg _ i j)
UR fin h' ys sb S' p
US e _ _ h
UT dOf (Y9 WC bZ dq)
UU bubble_perm _ _ _
UV bubble mG j (j-l)
UW (["part"]:List Str)
UX XE.toV (Y6 pT ar)
UY XE.toV (Y6 A2 ar)
UZ XE.toD (qM kL pT)
U0 Ww hr.units pT jy
U1 Srt bl
U2 SqL.of (x1.gh _ _ f1)
U3 .tup (p.1.map kV)
U4 .int (wgh 0 rows)
U5 .Subscript o2 o3 q5
U6 .Subscript o k pos'
U7 .Subscript o i pos'
U8 .Call oK [a] [] q
U9 .BinOp a op b pos"#
|'V'=>r#"Va ((k.toNat:Nat):Int)
Vb (XU lu).map D.int
Vc (Wy gS Ay).map XJ
Vd ⟨rfl,rfl,∅,Fe⟩
Ve ⟨r,_,rfl,dn,kp3⟩
Vf ⟨r,_,rfl,dn,kp'⟩
Vg ⟨i,j,rfl,rfl,nQ⟩
Vh ⟨d,rfl⟩
Vi λz=>vP z.symm e
Vj λx=>rfl
Vk λk=>bs.getD k d
Vl λi x v e1 e2 e3=>?_
Vm λi ds' hi=>vP hi FH
Vn λc hc=>(hf' c hc).1
Vo λb c hb hbc=>?_
Vp zu ∅
Vq zAU H a y o
Vr zA hi
Vs yj _
Vt yI (q5N xs lo hi) hz
Vu xs.map B
Vv xr _
Vx (x.fst,x.2.fst,pw)
Vy wpAny_handled ?_
Vz vV 6
VA vH (h1.symm.trans e)
VB vF->Prop
VC truthy v
VD stat fr5
VE st::rest
VF some i
VG s+Pre.flatten.length
VH qm jy qt
VI qj (pv 6) qq rfl
VJ qL hN hi hx h1 hs hf
VL q8R s.heap I.big
VM pv 5
VN ob.data=.dict es0 ep
VO ns.map WData.int
VP (none,l,r)
VQ nmP k gs
VR lo+x
VS ks.toList.zip vs
VT kV k
VU its.toArray.size-1
VW h'.pend.trans h.pend
VX h'.kind.trans h.kind
VY h'.fail.trans h.fail
VZ gs.flatten.length<64
V1 getElem?_pos xs j hs
V6 (["arc"]:List Str)
V7 Yz oT (Yz oR Y2)
V8 Yz Er Y2
V9 Yz AO (Yz AO Y2)"#
|'a'=>r#"ae List bo
af List Int
ah Y0 bn (Y0 bw aB)
ai ⟨rfl,rfl,rfl,⋯,rfl,⋯,⋯⟩
ak Yz iE (Yz mW (Yz pU Y2))
ao ["home", "last", "boxes"]
ap model prog w
aq model X.prog X.w
ar XD.toV Y3
au Inv X pins σ H s
aw .lst jn
aA Pz h l bs
aB Y0 fj XC
aC Or.inl rfl
aD List Av
aE .lst Ax
aG WE X N scope C s H fp
aH vOf (Y1 0)
aK RfS K G0 H0 G s as p t b ks ls xss T B h y σ H
aL .ref s.heap.objs.size
aM (x==("__debug__" : Str))=false
aN X.fn x=true\/X.env.scope.names.lookup x=some .local
aO .ref p
aQ vB->vC->Prop
aR Y0 bw (Y0 fj N9)
aS vK kw X.env=dW::vK es X.env
aT .lst LN
aU .lst FN
aV .ListComp elt [⟨tg,iter,ifs,0⟩] scope pos
aW fC Rx
aX ua (wpAny_callSpecial?_slot (name:=Str.ofString "__next__") hT F.slotSetNext (vt F.slotSetNext hT F.entSetNext ?_ (F.argsSetNext _)))
aY List D
aaa Yz A3 Y2
aab Y8 qU (Y0 fD XC)
aac Y6 eG ar
aad Y0 kJ XC
aae Y0 Cc (Y0 Do XC)
aaf Xn i
aag X6.no no.pw
aah X1 f (f p) (f q)
aai X.wish E
aaj Room k0 X.A
aak RelV v u
aal L2.Inv X pins σ H s
aam IsTup s.heap t items
aan IntKeys arr
aao Int->Int->D
aap I1.hok.fresh hle
aaq Gl X "list"
aar G p=none
aas G a=some gL
aat Ext.refl s1
aau Array BL
aav .Tuple es x1 pos
aaw .IfExp c a b pos
aax .Dict [] [] dpos
aay (twoA Oq).map XJ
aaz (hs.2 b mZ).trans e1
aaA ((2:Nat):Int)==2
aaB λω e h=>qeb h
aaC λω e h=>qd6 h
aaD λl e ih he=>?_
aaE λi j ds es l e=>?_
aaF λb z=>vP z (noA b)
aaG λb u e=>zE _ e
aaH λb o e=>zE _ e
aaI zS _ (zR.mpr rfl)
aaJ zCY (Y8 q06 ah)
aaK vK Bb X.env=[cz,An]
aaL s.heap.objs.size<=a
aaM s.heap.IsList l2 ys
aaN s.heap.IsList l1 xs
aaO q0S hN i4 l4 f4
aaP q0S hN i3 l3 f3
aaQ putSet_of es' t' gd
aaR pm.mem_iff.mp h
aaS op==CmpOp.NotIn
aaT mirror bR _ _ _
aaU kvs.length<sizeLine
aaV ks.length=vs.length
aaW dOf (Y8 q05 gz)
aaX call jW (v::us)
aaY bubble mG LM Ih
aaZ assign bV X.env
aa0 as.getD n (0,0)
aa1 [BT,none,none,none]
aa2 ["thing", "places"]
aa3 X.mg "range" = none
aa4 Within.refl _ _ _
aa5 I.ok.noex b o e
aa6 Ext.hide s hp _
aa7 .ref x.2.1
aa8 (.nx,ω.set i nv)
aa9 .lst xs.reverse
aba .frz o u
abb .bl (decide Dz)
abc .Tuple es k pos
abd .Tuple CB kx tp
abe .Name "list" p1
abf (r.drop oV).take eN
abg (Y7 aA).map edD
abh ⟨v,u,h1,h2,h4⟩
abi ⟨row,U',?_,r2⟩
abj ⟨ob,h1,h2.2.1⟩
abk ⟨d0,d1,d2,rfl⟩
abl λq=>z2 q.symm
abm λq=>z1 q.symm
abn λi v=>v=val i
abo λe=>Y4 (WL e)
abp λe he=>t e KW
abq λ_ _ _=>False
abr λ_ _ _ _ n=>n
abt zDE X.K f vs H Q E
abu I1.laid (t':=s1.toks) aaG bX ?_
abv xs.length<=1000000
abw x1.gg.trans g2
abx x1.gg.trans Kv
aby w9 K cdv qual=true
abz vK [e0b] X.env
abA upTo 0 j.toNat
abB typeIs_str s z t
abC ts.map Value.ref
abD some (.sh p.1)
abE some (.rt r,w)
abF some (.ref Lp)
abG s2.trans o2.gh
abH ret Value.none
abI repA ks vs k v
abJ qc (qh (vE 2))
abK ot.data=.seq ps nt
abL o.ext.hh.free e2
abM mg "sorted" = none
abN iZp (Y0 mQ BW)
abO hnext _ _ _ ?_
abP ds.length<=1000000
abQ c i a xs e1 e2
abR base+(hint-of)
abS base+(hint-lo)
abT base+(hint+of)
abU base+(hint+lo)
abV ["levels", "rest"]
abW ZJ iq (.ref y)
abX Wx ks xss a' b
abY T.lst j l xs e2 e5
abZ Loc X.env.scope x4
ab0 I.hok.fresh OF
ab1 FnScope N ps scope
ab2 Ext.refl ow.gh
ab3 Binds X.K fd ps ds
ab4 Array vS->ve->Prop
ab5 Array vB->Array vB
ab6 Array dy->vC->Prop
ab7 AP X pins σ Q
ab8 .lst (kn.map XJ)
ab9 .int r.1
aca .int oP s.toks
acb .int ns.length
acd .int 2
ace .builtin "sum"
acf .builtin "len"
acg .builtin "all"
ach .builtin "abs"
aci (ds++[d]).length-1
acj ⟨z,H,I,rw',q⟩
ack ⟨f3,f1,f4,f5⟩
acl λz=>vP rfl z
acm λn hn=>?_
acn λl hl=>?_
aco λj ks' es hj=>?_
acp λ_ z _=>z
acq zN e1
acr zH _ hc
acs zBD CX X E
act x-(0+1)
acu vK [b] X.env=[An]
acv vA GT
acw uk hTI rfl ?_
acx ub jj
acy ub iO
acz uK ?_
acA ts.take (n+1)
acB trk h H
acC tCB r t
acD some kb
acE some Hd
acF some GF
acG shp d=true
acH qu jE
acI qu A3
acJ q::qs
acK (p.1:Int)
acL ow.gh.free hp
acM o2.gh.free hl
acN o.ext.gg.trans s1
acO no.od i ks ds
acP m-(0+1)
acQ l.map g
acR keyOk m
acS i+j-1-k
acT hi-lo
acU h r st1 dn kp
acV gs.flatten.Perm P
acW gT 2 nc
acX fr H3
acY fk ω
acZ fC cU
ac0 eval jd X.env
ac1 bs.map XJ++Ht
ac3 [assign tg X.env]
ac4 ["parts", "ties"]
ac5 ["boxes", "arcs"]
ac6 ["bounds"]
ac7 Xt 4 Gu
ac8 Xt 4 (eOf pD)
ac9 Xa st
ada XD X e0 g0
adb X8 mQ
adc X.length+Y.length
add WF op g
ade Value.int a t
adf Ti.mono xk.hh
adg Sum.inl n
adh Sum.inl k'
adi (Sum.inl h:Key)
adj Room k X.A
adk Rch es a c
adl PE X o1 LW
adm PE X o0 LX
adn Nat×Nat×Nat
ado N.length=5
adp Itt K a
adq Itl K a
adr ItemsOf.nil _
ads Ite K a
adt H a=some o
adu D.tup [oJ,DG]
adv D.tup [DG,oJ]
adw (0,.none)
adx .tup ys
ady .tup [iR,w1']
adz .str x t
adA .ref tp
adB .ref kS
adC .ok f
adD .lst ip
adE .int (zAP dQ)
adF .cons ru .nil
adG .bl p
adH .If c a b pos
adI (vf st4).size-2
adJ ((0+i:Nat):Int)
adK ⟨os,hos,hcs⟩
adL ⟨o,e,ex.2.1⟩
adM ⟨[],rfl,rfl⟩
adN λk z hk=>?_
adO λb=>c b-d b
adP λb=>c b+d b
adQ λa=>f (g a)
adR λ_ _ _ e=>e
adS (y.length:Int)
adT xc c16 hr b9
adU x3.gh _ _ h1
adV x2.hh _ _ r2
adW x1.gh _ _ e2
adX vK [b] X.env
adY uk hS rfl gr
adZ uk gt gtd ?_
ad0 uS hS rfl ?_
ad1 uD kws X.env
ad2 tot+(t-a)*og
ad4 (sizeLine:Nat)
ad5 qy (q0e q5F)
ad6 qj EA qq rfl
ad7 qc1 x1.hh r2
ad8 putK kvs k y
ad9 pre++[(k,g)]
aea ow0.ow i ds'
aeb op==CmpOp.In
aec o3.gh _ _ J4
aed o2.gh _ _ r1
aee o1.gh _ _ r1
aef no2.ow i ds'
aeg mg "list" = none
aeh m.leb x hx y
aei m.lea x hx y
aej lo+LL-1-k-lo
aek lM=Sum.inl k
ael (kV kv.1,kv.2)
aem gwt h l bs q
aen g.map λ_=>v
aeo fC (.int 64)
aep eval b X.env
aeq eval a X.env
aer call gk [dH]
aes ["boxes", "gap"]
aet Yz (vD 8) Y2
aeu Y9 oIx lE be
aev Y9 oIx lE aW
aew Y9 oIx bZ aW
aex Y9 oIx aH ij
aey Y9 oIx aH be
aez Y9 oIx aH aW
aeA Xm (Xk 6) Wh
aeB StateT ve Sem α
aeC RB.drop m++S
aeD Itk a ob kvs
aeE (0,Value.none)
aeF .tup [x1,y1]
aeG .tup [iR,x1]
aeH .tup [eu,cM]
aeI .ins C dx fs
aeJ .inr (zg h2)
aeK .inr (yg lt)
aeL .Name x4 q13
aeM .Name x3 q11
aeN .List es pos
aeO (h y).mpr zF"#
|'b'=>r#"be fC pK
bg List V
bj Array vS
bn dOf (Y1 0)
bo Int×Int
bq XE.toD aac
br [nP,↥aT,none,none,none]
bt [⟨some lV,.Name x p2,p3⟩]
bu List vB
bv ["things", "knots", "edges"]
bw dOf cf
bA Yz mW cp
bB plc h l bs
bC .inl rfl
bD ⟨_,rfl⟩
bF vOf (Y1 3)
bG Str->Option vB
bH List α
bJ [hV,none,↥(.dic ts ((nbT ts es).map gLD)),none,none,none,none,none]
bK λcdv A outer s H vs Q E hr h=>?_
bL .dic ts (nbD ts es)
bM bs.length<=30
bN none_ _ _
bO ["home", "last", "boxes", "thing"]
bP List af
bQ some aO
bR vM st'
bS .lst l7
bT Own K G0 H0 G ω σ H
bU λG0 H0 G ω σ H out ω' E o e k=>?_
bV .Name x pos'
bW .Call (.Attribute o1 "setdefault" a1) [e0,JA] [] c1
bX zL _
bZ vOf cf
b8 λG0 H0 G ω σ H r Q o e k=>?_
b9 Yz iE Y2"#
|'c'=>r#"ce ls.map V.ref
cf Y1 1
cg List Str
ci List D->Option O
cj .dK kvs
ck vK [] X.env
cp Yz pU aaa
cv XQ iF (XQ (gN 1) X3)
cz (false,eval a X.env)
cB .int a
cF ⟨rfl,I.turned (t':=s.toks) (λb o hb e=>eb b o hb e) f0 f1 f3 f4 f5⟩
cG Int->Int
cH vOf (Y1 2)
cI [nP,↥aT,none,none,x4.map W.sh]
cK Int×List af
cL WE X N scope P1.objs.size s2 H2 fp
cM .ref l
cN ns.map V.int
cO .Call (.Attribute (.Subscript o4b e1b q8) "append" a2) [e0b] [] c2
cP List Nat
cQ ([]:List Str)
cR (n:Int)
cT EP X pins σ Q
cU .bl true
cV X.calm=true
cW sIx items.size items.size hi-sIx items.size 0 lo
cX List vF
cY .Call (.Name x p) kw [] pos
cZ .Call (.Attribute (.Subscript o4 e0 q7) "append" a1) [e1] [] c1
c9 [ib,jJ,aE]"#
|'d'=>r#"da XE.toD (Y6 pT ar)
db A.handled=none
de o.data=.set es ep t
dg ⟨rfl,rfl⟩
dh Option W
di some (.ow ds)
dj ha pins s σ H _ I h
dk .lst xs
dl .lst (kn.map Y4)
dq vOf (Y1 4)
du Tab G H0 H p ks ls xss
dv ⟨_,rfl,?_⟩
dw List vS
dy Int×vB
dz ua (wpAny_callSpecial?_slot (name:=Str.ofString "__next__") hT PySem.F.slot_zip_next (vt PySem.F.slot_zip_next hT PySem.F.entry_zip_next ?_ (PySem.F.args_zip_next_1 _)))
dC XL.refl _
dG λr s'=>r=.ok (.ret mX)/\OldK s₁.heap s'.heap/\s'.os=s₁.os/\tV s'.gens
dH .ref a
dI Array vB
dJ vq (vG ⟨_,rfl, "set_iterator", _,OW,F.slotSetNext.lookup,?_⟩)
dM .bl false
dN List D->WSt->Option WSt
dQ XN h l bs q
dS XV X a f
dU Option D
dW (false,eval e X.env)
dX .Call (.Name "zip" p2) Bb [] q2
dY .lst (es.map egD)
dZ Ext.refl s"#
|'e'=>r#"eu .int b
eF zo as.length
eG vV 0
eI some md
eJ arA h l bs F
eK L2.start N vs
eM uA "list" vs.toArray 0
eN HT.sIx xs.length xs.length hi-HT.sIx xs.length 0 lo
eO x1.trans x2
eP .tup [.lst mM,MP]
eQ chi x g.2-chi x g.1
eR vM st
eS t.fits es.size=true
eU qy (q0i (q2m PySem.F.plainAttrs_list PySem.F.slot_list_append PySem.F.type_list_append q0q (q2X hu h2b k3' n1) (qj k1' qq t2) (q6U _) w2 z2 t2 p2) v2)
eV List T7
eW λ_=>?_
eX Out×WSt
eY .lst (((Y7 aA).map egO).map egD)
eZ vOf (Y1 5)"#
|'f'=>r#"ff dOf (Y1 3)
fj dOf (Y1 2)
fm ⟨Ext.refl gs,?_,λi d e=>q4s rp i d e,OD,JH,Ko,X6.no qK.pw⟩
fq Loc X.env.scope x
fw Option Int
fz q0i (q2m PySem.F.plainAttrs_list PySem.F.slot_list_append PySem.F.type_list_append q0q (q2X hu h2' k1 n0) (qj k3 qq t1) (q6U _) w1 z1 t1 p1) v1
fB dOf aey
fD dOf aez
fF Yz iE fK
fH ⟨Ext.refl sg,rfl,MZ,λi ds h=>vP h (no0.ow i ds),λi j ds es l h=>vP h (no0.ow i ds),λi ks ds h=>vP h (no0.od i ks ds),X6.no no0.pw⟩
fI λG0 H0 G ω σ H d Q o e k=>?_
fJ k==NameKind.free&&env.scope.kind == .function&&env.kindOf n==some .cell
fK Yz mW Y2
fM Inv X fY σ H s
fN s.heap.get? a=some o
fO nmP 0 gs
fP ["things", "ties"]
fQ .lst ds
fR ⟨_,e,rfl⟩
fT λx hx y hy=>?_
fU tG (uK SD)
fV XN h l bs q==0
fW ["things", "knots", "edges", "bound"]
fX uV PySem.F.plain_extend_loop _
fY apart pins a kS e1 ks e"#
|'g'=>r#"ge ⟨ok.mod,ok.kind,ok.glob,ok.blt,ok.above,ok.inj,ok.has,ok.cab,ok.hd,ok.frames,ok.stk,ok.exf,ok.bs,ok.bsz,ok.noex,ok.exfs,ok.funs,ok.frf⟩
gj .fresh 0 0 Sd
gk .builtin "sorted"
gm (XU bB).map D.int
gr vG ?_
gz Y0 bn XC
gB ⟨(hb C s H fp).1.can,(hb C s H fp).2.1.can,(hb C s H fp).2.2.can⟩
gC .lst (xs.map V.int)
gE w.params.setOrder a ep
gF ⟨_,_,_,_,_,rfl,m2,∅,∅,∅,∅,∅,kp'⟩
gG ns.map D.int
gH ["start", "arcs", "waiting", "trail", "backwards", "here", "number"]
gJ St->Hp->Prop
gK Mg a.toList b.toList out.toList i j
gL .lst vs
gM X.A.units+64<ut
gO .lst ((ls++J8).map λx=>V.ref x.1)
gP (x==("__classdict__" : Str))=false
gQ arA h l bs F++[(l,h)]
gR oEq false
gS XN h l bs
gU List Eg
gW λb o hb q=>(zw _ _ ji).trans q
gX XE.toV (qA qw q08 rfl z17 q0b (qm eG qt))
gY BlkOk X N M frees scope
gZ upd H s.heap.objs.size (.tup [iR,x])"#
|'h'=>r#"hV some (.pw jn)
hW XE.toV (q02 i9 ar)
hZ .ref S"#
|'i'=>r#"ib .int h
ie λx=>x.1.isSome
ig xs.map D.int
ii ha pos pins s σ H _ I h
ij fC acd
ik ((HT.sIx items.size 0 lo:Nat):Int)==0&&Bf==1&&(HT.sIx items.size items.size hi-HT.sIx items.size 0 lo)==items.size
im xv x qual (WR st) ac9 Hu .none kV doc pm an cdv ct
io qc (qh (XD.toE (q1m (XE.toD (q0K eG z14 rfl z11 rfl z13 qdx)) (q36 (qdS (XE.toD (q0K eG z15 rfl z11 rfl z12 qbS)))))))
ip (XZ ns).map V.int
iq .ref f
iw vJ z
iy revObj l (Lb-1)
iz Option vB->vC->Prop
iC List (κ×V)
iD .lst []
iE vD 0
iF gN 0
iG XV X b g
iH λ_ _=>rfl
iI λG2 H i x H' d s0 s1 hd hy=>?_
iJ apos.endLine==cpos.line
iL qc (qh (XD.toE Wf))
iM of_decide_eq_true h
iN o.keep x1
iO .ref z
iP vH z
iQ FnOk X.prog X.w X.K X.mg X.base CX0 k f fd ps (spD X.K 1 m)
iR .int i
iS upd H p KJ
iT blw b
iU λi=>ns.getD i 0
iV vK es X.env
iW vJ ∅
iZ rows.map WU
i9 XE.toV (q0B A2 ar)"#
|'j'=>r#"ja V->Option Int->Option Int->Hp->VK->Prop
jb List Key×vF×vB
jc .ref s2.heap.objs.size
jd .Name x pos
je qA qw q08 rfl z17 q0b (qm A2 qt)
jg Xo as n
ji Ne.symm hb
jj .ref it
jm .frz ob cj
jn ts.map D.int
jo s.heap.objs.size+1
jp (m:Int)
jq zCA CX P w K mg base N qual scope f cdv A outer s H E
jr .int (((Y7 aA).map J3).sum+2*(F.map XR).sum)
jt zU _ rfl
ju upd H s.heap.objs.size Bg
jv tO aq X.A X.env X.xe
jw List vW
jx ⟨A8,A8,I.base.free,λb o e hx=>?_,I.base.tups,I.base.frzs,I.base.tbls⟩
jy vV 3
jz s11 y0 v1' v2 v3 v4 bQ y6 y7 y8 acF y10
jA qv 0
jE XE.toD (xc c30 hr ak)
jF XE.toD kc
jG I.tok _
jH HOk P w H h
jI (.nx,ω.set i (some (.od (Wd ks k) (putA ks ds k d))))
jJ .int l
jK s _ _ h1
jL qc (q0d PassesOwn.never rfl (qu RO) (qg (i:=7) qO.nd rfl aC) (qc (q47 hr.units lU (vD 7) Wf)))
jM qR (zAr hr.units (XE.toV (q02 eG ar)) ar) (qc (qh (q0M (XE.toV (q02 TL ar)) ar))) qC
jN b∈X.ex\/X.s₀.heap.objs.size<=b
jO ω.set i ↥d
jP Option V
jQ X.fn x3=true\/X.env.scope.names.lookup x3=some .local
jR X.fn x2=true\/X.env.scope.names.lookup x2=some .local
jT he pins s σ H _ I h
jU dOf (Y1 4)
jV I.ok.hd hc
jW .builtin id
jX .ListComp elt [⟨target,iter,ifs,0⟩] scope pos
jY tF z TI TO i1 i2 l1 l2
j6 Srt b.toList
j7 Srt a.toList
j8 Bool->Hp->Prop
j9 Int×Int->Int"#
|'k'=>r#"kb some (.od ks ds)
kc Y6 RL ar
kg Y0 bn BH
kh Xp (eOf (fC dM))
ki vM st1
kj D.pys ds
km .lst NC
ko .Tuple elts kx tpos
kq λT a=>q4L a ad5 q2U
kr List Rs
ku .ref t
kw e::es
ky SetTable.grown es1.size
kz .Compare a [op] [b] pos
kD vOf (Xi 1 [] Sc iF Xj q1F)
kE vK [e1] X.env=(false,eval e1 X.env)::vK [] X.env
kF XE.toV (qA qw q08 rfl z17 q0b (qm RL qt))
kG .int (as.getD k.toNat (0,0)).2
kH .int (as.getD k.toNat (0,0)).1
kI qo (i:=6) qO.nd rfl (Or.inl rfl) (XD.toE (XE.toD (xc c35 hr (Yz Er (Yz pU Y2)))))
kJ dOf (Y1 5)
kK λG0 H0 G ω σ H ds R o e k=>?_
kL vV 1
kN Wp (k:=k) h0 ∅ hk ?_
kO Nat×List Int
kP λb hb=>?_
kQ x ≠ "__name__" 
kR uD [] X.env
kT q76 (q0n jA (q0n (qv 1) q3F))
kU kvsOf ks vs
kW kvs.any λkv=>decide Tq
kX fC (.int 3)
kY X6 K H0 G ω σ H
kZ X.mg "sorted" = none
k8 .BoolOp .And (a::b::rest) pos
k9 ⟨d',v,a,uB some b,c⟩"#
|'l'=>r#"lf vH ∅
lg vH rfl
lh oEq true
lm [↥bS,↥lD,JQ,DJ]
lu F.map XR
lw ⟨_,_,rfl⟩
lC ⟨Gn,lK⟩
lD .lst (P.map D.int)
lE vOf (Y9 oIx bZ DL)
lG v9 DX (λv s1 h1=>v9 h1 (λitv s2 h2=>?_) λ_ _ q=>q) λ_ _ q=>q
lH XE.toV aac
lI XE.toD (xc c28 hr ak)
lK (qX _).mpr (.inr (.inr ⟨b,hb,MT⟩))
lL ⟨cM,r1,.inl SB,h2 G0 H0 G ω σ H d _ ow q λv G1 H1 x1 y1=>?_⟩
lM (Sum.inl k':Key)
lN zH _ hx
lO some v
lQ base+i
lT (.nx,ω')
lU pv 3
lV Str.ofString "key"
lW List (Str×vF)
lZ D->D->Option R
l0 .frz ob (.dK (kvsOf ts ce))
l6 ho pins s σ H _ I h
l7 gs.map gD
l8 ds.zip xs
l9 binT ha hb I h λv u s2 x y H2 I2 rx ry q=>ho pins s2 σ H2 x y v u Q I2 rx ry q"#
|'m'=>r#"ma ["edge"]
md .int k
me λj k fs gs m hj hk sj sk=>?_
mf q2g λ_ _ _=>rfl
mh [↥bS,Mo,↥(.int Aw),DJ,x4]
mi (LS:List Str)
mj XB.cons (ya.mono (xb.gg.trans xc.gg)) (XB.cons (yb.mono xc.gg) (XB.cons yc XB.nil))
mm .BoolOp .And (b::rest) pos
mo some (.pw es)
mq kindOf st=uH
ms k<xs.toList.length
mt k _ _ bC e
mv (Sum.inl k:Key)
mw IntKeys a₀
mE Ext.refl o.gh
mF vt PyProof.Rows.slot_tuple_getitem ht.typeIs entry_tuple_getitem ?_ (sV _ _)
mG vM st2
mH vK [a] X.env=cz::vK [] X.env
mI uC aV Qf spos.line X.env=pure true
mJ row.drop (j+1)++row.take j
mK WQ ks xss h
mL .tup [.int Q4,.int Q8]
mM (Y7 aA).map Oh
mN ⟨rfl,rfl,rfl,rfl⟩
mO λa b=>f a<=f b
mP uC e Qf pos.line X.env=pure false
mQ dOf (Y8 q0O ah)
mR PE X o LU
mS Array dy
mT (.rt DH,ω)
mU (zo n).filter λj=>decide LT
mV (Y7 aA).map egO
mW vD 1
mX .bool true
mY λG0 H0 G ω σ H out ω' E ow e kk=>?_
mZ zy (yA Ep (I.ok.cab x c hfn hc))
m6 su a₀.size a₀.size 0
m7 p.2==NameKind.free
m8 k0==NameKind.free&&env.scope.kind == .function&&env.kindOf n==some .cell
m9 ["count", "lack"]"#
|'n'=>r#"nc XQ (gN 4) (XQ R3 X3)
ng .done (.ret .none)
nh .Assign [bV] e pos
nj α->Int
nr yp.mp hy
nu vK [e] X.env
nv some (.od [] [])
ny q2y hp hc (q26 h0) aaP (qy (q7i hu h2 h3 Kw s2)) y1
nB λG0 H0 G ω σ H out ω' E ow e k=>?_
nC sF qual scope s.heap.objs.size f cd
nD X.env.scope.names.lookup x=some .local
nE Option Nat->ve->Prop
nF List adn
nG Lf K G H p q v1 cn ls rs n
nH .type "set"
nJ (.nx,ω.set i Q2)
nK .dic ks Nv
nL .Call (.Name "reversed" p2) [a] [] q2
nM vOf (WF zAN (Y0 aH XC))
nN upd H1 t aeH
nO uA "tuple" vs.toArray 0
nP some (W.sh aw)
nQ k _ G H dZ rfl
nR eval o X.env
nV List V->Hp->Prop
nW I.hok.fresh bX
nX GS ts es gs hs
nY (.rt (.sh d),ω)
nZ .fr ((XZ ns).map D.int)
n8 .Dict [] [] q1
n9 some (.sh (Y4 e))"#
|'o'=>r#"oa (i:Int)
oe XE.toD (Y6 jy ar)
og (gs.length:Int)-1
oh ["thing"]
oi XB K G ds vs
oj ⟨_,e,rfl,n,rfl⟩
om uC JA (some U5) q6.line X.env=pure false
oo Xi M frees fi fg fc fe
oq (.nx,ω.set i (some (.od [k] [d])))
ou fr H
ox XD.toV (Xl (Yz (XE.toD (xc c__law_counts hr bA)) N5))
oy .lst oM
oz ⟨"tuple", _,PyProof.Rows.slot_tuple_getitem.lookup,ht.typeIs,?_⟩
oC (bs.length:Int)
oD Xb X.prog X.w
oG (Sum.inl n:Key)
oH (Sum.inl a:Key)
oI HT.sIx xs.length 0 lo=0/\HT.sIx xs.length xs.length hi=xs.length
oJ .int q.1
oK .Name "sorted" p
oM (XZ F).map D.int
oN λl hl=>k _ G _ (Ext.hide s hl _) ⟨l,us,rfl,hl,s.free hl,qe,h2⟩
oO some (.ow [])
oP g i j
oQ fd ω
oR XE.toD (xc c49 hr ak)
oT XE.toD (xc c48 hr ak)
oU List (κ×vB)
oV HT.sIx xs.length 0 lo
oW (arA h l bs F).map XJ
oX ⟨_,jt,rfl,rfl⟩
oY λb o hb e=>(sb.2 b hb).trans e
oZ zA hlt
o7 pv 2
o8 bI JW+bI Q7"#
|'p'=>r#"pb WI as n
pd Binds X.K fd ps []
ph .tup xs
pi .int s
pj KL==0&&Bf==1&&cW==items.size
pr V->List V->Hp->VK->Prop
pz List vm
pA λi ks ds h=>vP h acO
pB zn _
pC yA Ep I.ok.above
pD dOf (Y8 q0h ah)
pE Xp (eOf (zBY (dOf (zBE .int aH)) (vNot (dOf (zBE .bl aH)))))
pF WSt->Prop
pG PE X e te
pH PE X a ta
pI I1.hok.fresh bX
pJ (.nx,ω.set i ↥(.int (g a b)))
pK .int 1
pL .Call (.Name "set" p2) [a] [] q2
pM ((sIx n 0 lo:Nat):Int)
pN λ_ _=>False
pO vM st3
pP a₀.size-lo
pQ Xb P w
pR (pe.setIfInBounds i Pc).eraseIdxIfInBounds (i+1)
pS zAu s.heap a Sd xs
pT vV 4
pU vD 2
pV uw ?_
pW q4K q5o (q4K q79 (q4K q5o VM q5t iH) (pv 9) iH) q5t iH
pX Yz (XE.toD (xc c36 hr ak)) Y2
pY Wo scope.names X.env.cells []
pZ We (zAa (zCw X.K) [] E2 (Xm LX (Xm LW Wh))) (Xn 2)
p7 Vis X.env.scope x"#
|'r'=>r#"rf PyProof.Rows.callWith_type1 (thn ii λus s1 Z_=>?_) hs rfl
rg .call Ls AB
rh .Return (some e) pos
ri λj e hj=>?_
rj vG Ag
rm vB->vB->Sem vB
rn some (W.sh aU)
ro Unit->vC->Prop
rq List (Str×uh)
rO FoA h l bs F
rP Bool->vC->Prop
rQ .UnaryOp .Not a pos
rR λ_=>D.bl true
rS xv x x (WR st) ac9 Hu .none kV doc pm an cdv ct
rT ts.map λ_=>[]
rV s.heap.IsSliceOf sl vl vu .none
rW (r.2.length:Int)
rX neq+1
rZ [(h,l)]"#
|_=>""
local macro_rules|`($x:ident)=>do
 let s:=x.getId.toString
 if s.length>3 then Lean.Macro.throwUnsupported
 match ((tB s.front).splitOn "\n").find? (·.startsWith (s++" ")) with
 |some l=>return (<-pT' 999 0 (l.toList.drop (s.length+1))).1
 |none=>Lean.Macro.throwUnsupported
set_option linter.all false
set_option maxRecDepth 100000
namespace L2
open PySem PySem.Spec PyProof.Rows
noncomputable abbrev Key:=Sum Int Str
noncomputable def zBT:Key->vB->Bool
 | .inl k,v=>Value.isInt k v
 | .inr x,v=>Value.isStrOf x v
noncomputable def keyH(w:vY):Key->Int
 | .inl k=>rF k
 | .inr x=>hashStr w x
theorem qH:∀{k:Key}{v:vB},zBT k v=true->(∃i t,k=Sum.inl i/\v=Value.int i t)\/(∃x t,k=Sum.inr x/\v=Value.str x t)
 | .inl i,v,h=>by
  obtain⟨t,e⟩:=Value.isInt_shape (k:=i) (v:=v) h;exact .inl ⟨i,t,rfl,e⟩
 | .inr x,v,h=>by
  obtain⟨t,e⟩:=Value.isStrOf_shape (x:=x) (v:=v) h;exact .inr ⟨x,t,rfl,e⟩
theorem qdz(i:Int)(t:Tok):zBT (.inl i) AV=true:=by simp[zBT,Value.isInt]
theorem qeV(x:Str)(t:Tok):zBT (.inr x) adz=true:=by simp[zBT,Value.isStrOf]
theorem qir(a b:Int):decide (oH=Sum.inl b)=(a==b):=by
 by_cases e:a=b
 ·subst e;simp
 ·have h:¬oH=Sum.inl b:=λq=>e (Sum.inl.inj q)
  rw[vX h];exact(beq_eq_false_iff_ne.mpr e).symm
theorem qiT(a b:Str):decide (MC=Sum.inr b)=decide (a=b):=by
 by_cases e:a=b
 ·subst e;simp
 ·have h:¬MC=Sum.inr b:=λq=>e (Sum.inr.inj q)
  rw[vX h,vX e]
theorem qjf(a:Int)(b:Str):decide (oH=Sum.inr b)=false:=vX (λq=>nomatch q)
theorem qiZ(a:Str)(b:Int):decide (MC=Sum.inl b)=false:=vX (λq=>nomatch q)
noncomputable def Xb(prog:vU)(w:vY):PySem.KeyKind prog w Key where
 is:=zBT
 hash:=keyH w
 inj:=λv a b ha hb=>by
  rcases qH ha with⟨i,t,rfl,rfl⟩|⟨x,t,rfl,rfl⟩
  ·rcases qH hb with⟨j,u,rfl,e⟩|⟨y,u,rfl,e⟩
   ·injection e with e1 _;rw[e1]
   ·exact nomatch e
  ·rcases qH hb with⟨j,u,rfl,e⟩|⟨y,u,rfl,e⟩
   ·exact nomatch e
   ·injection e with e1 _;rw[e1]
 byValue:=λk v h=>by
  rcases qH h with⟨i,t,rfl,rfl⟩|⟨x,t,rfl,rfl⟩ <;> rfl
 pyHash:=λhv h=>by
  rcases qH hv with⟨i,t,rfl,rfl⟩|⟨x,t,rfl,rfl⟩
  ·exact wpAny_pyHash_int h
  ·exact wpAny_pyHash_str h
 eqBool:=λhu hv h=>by
  rcases qH hu with⟨i,t,rfl,rfl⟩|⟨x,t,rfl,rfl⟩
  ·rcases qH hv with⟨j,u,rfl,rfl⟩|⟨y,u,rfl,rfl⟩
   ·rw[qir]at h;exact wpAny_eqBool_int h
   ·rw[qjf]at h;exact SeqAt.EqAt.int_str i t y u _ _ _ _ h
  ·rcases qH hv with⟨j,u,rfl,rfl⟩|⟨y,u,rfl,rfl⟩
   ·rw[qiZ]at h;exact SeqAt.EqAt.str_int x t j u _ _ _ _ h
   ·rw[qiT]at h;exact wpAny_eqBool_str h
 «strs»:=λk x t v h=>by
  rcases qH h with⟨i,u,rfl,e⟩|⟨y,u,rfl,e⟩
  ·exact nomatch e
  ·injection e with e1 _
   subst e1;cases v <;> rfl
theorem qaz(prog:vU)(w:vY)(i:Int)(t:Tok):(Xb prog w).is (.inl i) AV=true:=qdz i t
theorem qa8(prog:vU)(w:vY)(x:Str)(t:Tok):(Xb prog w).is (.inr x) adz=true:=qeV x t
inductive V where
 | non|bl (b:Bool)|int (i:Int)|str (x:Str)|byt (b:Array UInt8)|flt (b:UInt64)|ref (a:vF)|ty (n:String)
 deriving DecidableEq
def RelV:V->vB->Prop
 | .non,u=>u=Value.none
 | .bl b,u=>u=Value.bool b
 | .int i,u=>∃t,u=Value.int i t
 | .str x,u=>∃t,u=Value.str x t
 | .byt b,u=>∃t,u=Value.bytes b t
 | .flt b,u=>∃t,u=Value.float b t
 | .ref a,u=>u=Value.ref a
 | .ty n,u=>u=Value.type n
abbrev Xf:List V->List vB->Prop:=sx RelV
theorem Xf.length{xs:bg}{us:bu}(r:PD):xs.length=us.length:=Paired.length r
theorem Xf.get:∀{xs:bg}{us:bu}{i:Nat}{x:V},Xf xs us->xs[i]?=some x->∃u,us[i]?=some u/\RelV x u
 | _,_,_,_,.nil,e=>by simp at e
 | _,_,0,_,.cons r _,e=>by simp at e;subst e;exact QK
 | _,_,i+1,x,.cons _ t,e=>by
  obtain⟨u,h1,h2⟩:=Xf.get (i:=i) (x:=x) t ⇑e;exact⟨u,by simpa using h1,h2⟩
theorem Xf.append:∀{xs ys:bg}{us ws:bu},Xf xs us->Xf ys ws->Xf Nx (us++ws)
 | _,_,_,_,.nil,s=>s
 | _,_,_,_,.cons r t,s=>.cons r (Xf.append t s)
theorem Xf.take:∀{xs:bg}{us:bu}(n:Nat),Xf xs us->Xf (xs.take n) (us.take n)
 | _,_,0,_=>.nil
 | _,_,_+1,.nil=>.nil
 | _,_,n+1,.cons r t=>.cons r (Xf.take n t)
theorem Xf.drop:∀{xs:bg}{us:bu}(n:Nat),Xf xs us->Xf (xs.drop n) (us.drop n)
 | _,_,0,r=>r
 | _,_,_+1,.nil=>.nil
 | _,_,n+1,.cons _ t=>Xf.drop n t
def zBX:Option V->Option vB->Prop
 | some v,some u=>RelV v u
 | none,none=>True
 | _,_=>False
def KV{κ:Type}:List (κ×V)->List (κ×vB)->Prop:=sx λ(p:κ×V) (q:κ×vB)=>p.1=q.1/\RelV p.2 q.2
noncomputable def kV:Key->V
 | .inl i=>.int i
 | .inr x=>.str x
inductive HO where
 
 | lst (xs:List V)
 
 | tup (xs:List V)
 
 | dK (kvs:List (Key×V))|dT (kvs:List (List Key×V))
 
 | set (S:Int->Bool) (n:Nat)
 
 | ins (C dx:vF) (fs:List (Str×V))
 
 | own (x:vF)
 
 | xd (fs:List (Str×V))
 
 | met (f x:vF)
 
 | rng (lo hi:Int)
 
 | frz (o:Obj) (u:HO)
 
 | tbl (ps:Array vB)
 
 | ext (φ:vk->Prop)
noncomputable abbrev Hp:=vF->Option HO
noncomputable def upd(H:Hp)(a:vF)(o:HO):Hp:=λb=>if b=a then some o else H b
theorem qe{H:Hp}{a:vF}{o:HO}:upd H a o a=some o:=by unfold upd;rw[lg]
theorem qd{H:Hp}{a b:vF}{o:HO}(h:b≠a):upd H a o b=H b:=by unfold upd;rw[vJ h]
theorem qk8{H:Hp}{a b:vF}{o u:HO}(h:adt)(h':H b=some u)(d:o≠u):a≠b:=by
 intro e;subst e;rw[h]at h';exact d (zr h')
theorem q0G{H:Hp}{a b:vF}{o:HO}(h:adt)(h':H b=none):a≠b:=by
 intro e;subst e;rw[h]at h';cases h'
section
variable(P:vU)(w:vY)
def Xg(H:Hp)(h:vk)(a:vF):HO->Prop
 | .lst xs=>xs.length<=sizeLine/\∃(its:bu) (n:Nat),Xf xs its/\h.get? a=some { cls:=.type "list", data:=.seq its.toArray n }
 | .tup xs=>xs.length<=sizeLine/\∃its:List vB,Xf xs its/\IsTup h a its.toArray
 | .dK kvs=>kvs.length<=sizeLine/\Cz=false/\∃vs,KV kvs vs/\h.DictOf pQ a vs
 | .dT kvs=>kvs.length<=sizeLine/\Cz=false/\∃xs:List jb,
   sx (λ(p:Rs) (q:jb)=>p.1=q.1/\H q.2.1=some U3/\RelV p.2 q.2.2) kvs xs /\
   ∃o es ep,h.get? a=some o/\o.ExactDict/\o.data=.dict es ep/\es.toList=xs.map (entryOfKey (tY pQ))/\(xs.map (·.1)).Nodup
 | .set S n=>h.SetOf (tK P w) a S n
 | .ins C dx fs=>H dx=some Ov/\fs.length<=1000/\dx≠a/\h.get? a=some (Zd C dx) /\
   ∃mA,h.Ns1 dx mA/\(∀f,zBX Po (mA f))/\PySem.Within mA (fs.map (·.1))
 | .own _=>∃o,h.get? a=some o
 | .xd fs=>∃mA,h.Ns1 a mA/\∀f,zBX Po (mA f)
 | .rng lo hi=>∃t u v,h.get? a=some { cls:=.type "range", data:=.fields #[Je,Jf,L7] }
 | .frz o u=>h.get? a=some o/\Xg H h a u
 | .tbl ps=>h.get? a=some { cls:=.none,data:=.fields ps }
 | .met f x=>h.get? a=some (ZJ iq (.ref x))
 | .ext φ=>φ h/\(∃o,h.get? a=some o)/\∀h1 h2:vk,φ h1->(∀o,h1.get? a=some o->h2.get? a=some o)->φ h2
def HOk(H:Hp)(h:vk):Prop:=∀a o,H a=some o->Xg P w H h a o
end
section
variable{P:vU}{w:vY}{H H':Hp}{h h':vk}{a:vF}{o:HO}
theorem Xg.lt(x:Xg P w H h a o):a<h.objs.size:=by
 cases o with
 | lst xs=>obtain⟨_,_,_,_,e⟩:=x;exact zN e
 | tup xs=>obtain⟨_,_,_,p⟩:=x;exact p.lt
 | dK kvs=>obtain⟨_,_,_,_,o,_,_,e,_⟩:=x;exact zN e
 | dT kvs=>obtain⟨_,_,_,_,o,_,_,e,_⟩:=x;exact zN e
 | set S n=>obtain⟨o,_,_,_,e,_⟩:=x;exact zN e
 | ins C dx fs=>obtain⟨_,_,_,e,_⟩:=x;exact zN e
 | own y=>obtain⟨_,e⟩:=x;exact zN e
 | xd fs=>obtain⟨_,⟨_,_,_,e,_⟩,_⟩:=x;exact zN e
 | rng lo hi=>obtain⟨_,_,_,e⟩:=x;exact zN e
 | frz ob u=>obtain⟨e,_⟩:=x;exact zN e
 | tbl ps=>exact zN (show h.get? a=some _ from x)
 | met f y=>exact zN (show h.get? a=some _ from x)
 | ext φ=>obtain⟨_,⟨_,e⟩,_⟩:=x;exact zN e
theorem Paired.mapP{α β:Type}{F G:α->β->Prop}:∀{l₁:bH}{l₂:List β},sx F l₁ l₂->(∀a b,F a b->G a b)->sx G l₁ l₂
 | _,_,.nil,_=>.nil
 | _,_,.cons r t,f=>.cons (f _ _ r) (Paired.mapP t f)
theorem Xg.stay(x:Xg P w H h a o)(k:∀b u,(b=a\/H b=some Ov)->h.get? b=some u->h'.get? b=some u)(ho:∀b,H b=some Ov->H' b=some Ov)(ht:∀b xs,H b=some ph->H' b=some ph):Xg P w H' h' a o:=by
 induction o with
 | lst xs=>obtain⟨z,its,n,r,e⟩:=x;exact⟨z,its,n,r,mt⟩
 | tup xs=>obtain⟨z,its,r,ob,e,c⟩:=x;exact⟨z,its,r,ob,mt,c⟩
 | dK kvs=>obtain⟨z,y,vs,r,ob,es,ep,e,c⟩:=x;exact⟨z,y,vs,r,ob,es,ep,mt,c⟩
 | dT kvs=>
  obtain⟨z,y,xs,r,ob,es,ep,e,c⟩:=x;exact⟨z,y,xs,Paired.mapP r λp q z=>Nm,ob,es,ep,mt,c⟩
 | set S n=>obtain⟨ob,es,ep,t,e,c⟩:=x;exact⟨ob,es,ep,t,mt,c⟩
 | ins C dx fs=>
  obtain⟨d,z,ne,e,mA,⟨od,es,ep,e2,c⟩,r⟩:=x;exact⟨ho _ d,z,ne,mt,mA,⟨od,es,ep,k _ _ (.inr d) e2,c⟩,r⟩
 | own y=>obtain⟨ob,e⟩:=x;exact⟨ob,mt⟩
 | xd fs=>obtain⟨mA,⟨od,es,ep,e,c⟩,r⟩:=x;exact⟨mA,⟨od,es,ep,mt,c⟩,r⟩
 | rng lo hi=>obtain⟨t,u,v,e⟩:=x;exact⟨t,u,v,mt⟩
 | frz ob u ih=>obtain⟨e,q⟩:=x;exact⟨mt,ih q⟩
 | tbl ps=>
  have e:h.get? a=some { cls:=.none,data:=.fields ps }:=x;show h'.get? a=some { cls:=.none,data:=.fields ps };exact k a _ bC e
 | met f y=>
  have e:h.get? a=some abW:=x;show h'.get? a=some abW;exact k a _ bC e
 | ext φ=>obtain⟨p,⟨o,e⟩,st⟩:=x;exact⟨st _ _ p λo q=>k _ _ bC q,⟨o,mt⟩,st⟩
theorem HOk.lt(x:jH)(e:adt):a<h.objs.size:=(x a o e).lt
theorem HOk.fresh(x:jH)(e:Pm):H a=none:=by
 cases q:H a with
 | none=>rfl
 | some u=>exact vP (yA (x.lt q) e) Jn
theorem HOk.kept(x:jH)(k:∀b u,h.get? b=some u->h'.get? b=some u):HOk P w H h':=λa o e=>
 (x a o e).stay (λb u _ q=>k b u q) Nq λ_ _ q=>q
theorem HOk.laid(x:jH)(k:∀b u,h.get? b=some u->h'.get? b=some u)(hp:Pm)(new:Xg P w Fw h' a o):HOk P w Fw h':=λb u e=>by
 have hn:=x.fresh hp
 by_cases hb:b=a
 ·subst hb;rw[qe]at e;cases e;exact new
 ·rw[qd hb]at e
  exact(x b u e).stay (λc v _ q=>k c v q) (λc q=>by rw[Dl];exact q) λc xs q=>by rw[Dl];exact q
end
def Rd(H:Hp)(a:vF)(u:HO):Prop:=H a=some u\/∃o,H a=some aba
theorem Rd.ok{P:vU}{w:vY}{H:Hp}{h:vk}{a:vF}{u:HO}(r:Rd H a u)(x:jH):Xg P w H h a u:=by
 rcases r with r|⟨o,r⟩
 ·exact x a u r
 ·obtain⟨_,q⟩:=x a _ r
  exact q
def Mut:Option HO->Prop
 | some (.lst _)=>True
 | some (.dK _)=>True
 | some (.dT _)=>True
 | some (.set _ _)=>True
 | some (.ins _ _ _)=>True
 | some (.ext _)=>True
 | _=>False
section
variable{P:vU}{w:vY}{H:Hp}{h h':vk}{x e:vF}{o':HO}
theorem HOk.write(ok:jH)(mu:Mut (H x))(he:EV)(k:∀b u,b≠e->h.get? b=some u->h'.get? b=some u)(heo:∃u,h'.get? e=some u)(new:Xg P w (upd H x o') h' x o'):HOk P w (upd H x o') h':=λb u q=>by
 have nown:∀c y,H c=some (.own y)->c≠x:=λc y r z=>by subst z;rw[r]at mu;exact mu
 have ntup:∀c xs,H c=some ph->c≠x:=λc xs r z=>by subst z;rw[r]at mu;exact mu
 by_cases hb:b=x
 ·subst hb;rw[qe]at q;cases q;exact new
 ·rw[qd hb]at q
  by_cases hbe:b=e
  ·have q':H b=some (.own x):=by
    rcases he with z|z
    ·exact vP (hbe.trans z) hb
    ·rw[hbe];exact z
   rw[q]at q';cases q';obtain⟨v,hv⟩:=heo;exact⟨v,by rw[hbe];exact hv⟩
  ·refine(ok b u q).stay (λc v hc r=>k c v ?_ r) (λc r=>by rw[qd (nown c b r)];exact r) λc xs r=>by rw[qd (ntup c xs r)];exact r
   rcases hc with rfl|hc
   ·exact hbe
   ·rintro rfl
    rcases he with z|z
    ·exact nown c b hc z
    ·rw[hc]at z;cases z;exact hb rfl
end
structure Un (fs ex:List vF) (H H':Hp) (h h':vk):Prop where
 keep:∀b o,h.get? b=some o->H b=none->b∉fs->b∉ex->h'.get? b=some o
 slot:∀b o,h.get? b=some o->H b=none->b∈fs->b∉ex->∃sl,h'.get? b=some { o with slots:=sl }
 free:∀b o,h.get? b=some o->H b=none->b∉ex->H' b=none
 there:∀b o,h.get? b=some o->b∉ex->∃o',h'.get? b=some o'
 tups:∀b xs,H b=some (.tup xs)->H' b=some (.tup xs)
 frzs:∀b o u,H b=some (.frz o u)->H' b=some (.frz o u)
 tbls:∀b ps,H b=some (.tbl ps)->∃more,H' b=some (.tbl (ps++more))
section
variable{fs fs' ex ex':List vF}{H H1 H2:Hp}{h h1 h2 h':vk}{a x e:vF}{o:HO}
theorem Un.any(u:Un fs ex H H1 h h1){b:vF}{ob:Obj}(q:h.get? b=some ob)(n:H b=none)(hx:b∉ex):∃sl,h1.get? b=some { ob with slots:=sl }:=by
 by_cases hb:b∈fs
 ·exact u.slot b ob q n hb hx
 ·exact⟨ob.slots,u.keep b ob q n hb hx⟩
theorem Un.kept(k:∀b u,h.get? b=some u->h'.get? b=some u):Un fs ex H H h h' :=
 ⟨λb ob q _ _ _=>k b ob q,λb ob q _ _ _=>⟨ob.slots,k b ob q⟩,λ_ _ _ n _=>n,λb ob q _=>⟨ob,k b ob q⟩,λ_ _ q=>q,O2,λ_ ps q=>⟨#[],by rw[q];simp⟩⟩
theorem Un.refl:Un fs ex H H h h:=Un.kept λ_ _ q=>q
theorem Un.laid(k:∀b u,h.get? b=some u->h'.get? b=some u)(hp:Pm)(hn:H a=none):Un fs ex H Fw h h' where
 keep:=λb u q _ _ _=>k b u q
 slot:=λb u q _ _ _=>⟨u.slots,k b u q⟩
 free:=λb u q n _=>by rw[qd (zy (yA (zN q) hp))];exact n
 there:=λb u q _=>⟨u,k b u q⟩
 tups:=λb xs q=>by rw[Dl];exact q
 frzs:=λb u xs q=>by rw[Dl];exact q
 tbls:=λb ps q=>⟨#[],by rw[Dl,q];simp⟩
theorem Un.write(mu:Mut (H x))(he:EV)(k:∀b u,b≠e->h.get? b=some u->h'.get? b=some u)(heo:∃u,h'.get? e=some u):Un fs ex H ST h h':=by
 have hx:∀b,H b=none->b≠x:=λb n z=>by subst z;rw[n]at mu;exact mu
 have hb:∀b,H b=none->b≠e:=λb n z=>by
  subst z;rcases he with r|r
  ·exact hx b n r
  ·rw[n]at r;cases r
 have hm:∀b u,H b=some u->¬Mut (some u)->b≠x:=λb u q nm z=>by subst z;rw[q]at mu;exact nm mu
 refine⟨λb u q n _ _=>k b u (hb b n) q,λb u q n _ _=>⟨u.slots,k b u (hb b n) q⟩,λb u q n _=>by rw[qd (hx b n)];exact n,λb u q _=>?_,
  λb xs q=>by rw[qd J0];exact q,λb u xs q=>by rw[qd J0];exact q,λb ps q=>⟨#[],by rw[qd J0,q];simp⟩⟩
 by_cases hbe:b=e
 ·subst hbe;exact heo
 ·exact⟨u,k b u hbe q⟩
end
noncomputable def trk(h:vk)(H:Hp):List vF:=(zo h.objs.size).filter λa=>(H a).isSome
noncomputable def zCN(h:vk)(H:Hp):vk:=PySem.W.hideAll h acB
theorem qdA(h:vk)(H:Hp):(zCN h H).objs.size=h.objs.size:=PySem.W.hideAll_size _ _
theorem qf8{h:vk}{H:Hp}{b:vF}{o:Obj}(e:h.get? b=some o)(n:H b=none):(zCN h H).get? b=some o :=
 PySem.W.hideAll_get _ e λhm=>by
  have q:(H b).isSome=true:=(yL.mp hm).2;rw[n]at q;simp at q
theorem qiq{h:vk}{H:Hp}{b:vF}{o:Obj}(e:(zCN h H).get? b=some o):h.get? b=some o/\H b=none:=by
 have e':h.get? b=some o:=PySem.W.of_hideAll acB e;refine⟨e',?_⟩;cases q:H b with
 | none=>rfl
 | some x=>
  have hm:b∈trk h H:=yL.mpr ⟨xC.mpr (zN e'),by simp[q]⟩;have z:(zCN h H).get? b=none:=PySem.W.hideAll_none acB hm;rw[z]at e;cases e
noncomputable def zCy(g h:vk)(L:vF):List Av:=(zo h.objs.size).filterMap λa=>if a=L\/(g.get? a).isSome=true then none else (h.get? a).map λo=>(a,o)
noncomputable def rest(g h:vk)(L d:vF):List Av:=(zCy g h L).filter λp=>decide (p.1≠d)
structure Mod (K:zC) (mg:Str->Option vB) (base:vk):Prop where
 kin:K.In base
 glob:base.Ns vZ mg
 blt:∃mb,base.Ns builtinsNs mb/\∀x:Str,x ≠ "__name__" -> mb x=vn x
 nolimit:base.NoLimit
structure Cx where
 prog:vU
 w:vY
 K:zC
 mg:Str->Option vB
 base:vk
 A:vg
 N:List Str
 s₀:vC
 H₀:Hp
 env:Env
 outer:List Env
 stack:List Env
 ex:List vF
 fn:Str->Bool
 calm:Bool
 pn:List (vF×Obj)
 xe:vB->vC->Prop
noncomputable def frs(l:AU):List vF:=l.filterMap (·.frame)
noncomputable abbrev Cx.fs(X:Cx):List vF:=frs X.outer
def Vis(sc:u4)(x:Str):Prop:=sc.names.lookup x=some .local\/sc.names.lookup x=some .cell\/sc.names.lookup x=some .free
def Loc(sc:u4)(x:Str):Prop:=sc.names.lookup x=some .local\/sc.names.lookup x=some .cell
def Look(env:Env)(h:vk)(m:bG)(x:Str)(u:vB):Prop :=
 (env.kindOf x=some .local/\m x=some u)\/((env.kindOf x=some .cell\/env.kindOf x=some .free)/\∃c,env.cells.lookup x=some c/\h.IsCell c (some u))
structure Cx.Ok (X:Cx):Prop where
 mod:Mod X.K X.mg X.base
 kind:X.env.scope.kind=.function
 glob:X.env.globals=vZ
 blt:X.env.builtins=builtinsNs
 above:X.s₀.heap.objs.size<=X.env.locals
 inj:∀x y c,X.env.cells.lookup x=some c->X.env.cells.lookup y=some c->x=y
 has:∀x,(X.env.kindOf x=some .cell\/X.env.kindOf x=some .free)->∃c,X.env.cells.lookup x=some c
 cab:∀x c,X.fn x=true->X.env.cells.lookup x=some c->X.s₀.heap.objs.size<=c
 hd:X.calm=true->X.A.handled=none
 frames:X.A.frames=some X.stack
 stk:X.stack=X.outer\/(X.stack=X.env::X.outer/\X.env.frame=some X.env.locals)
 exf:∀b∈X.ex,b≠X.env.locals/\∀x c,X.env.cells.lookup x=some c->c≠b
 bs:∀b o,X.base.get? b=some o->X.s₀.heap.get? b=some o/\X.H₀ b=none
 bsz:X.base.objs.size<=X.s₀.heap.objs.size
 noex:∀b o,X.base.get? b=some o->b∉X.ex
 exfs:∀b∈X.ex,b∉X.fs
 funs:X.s₀.heap.FunFrames X.base X.outer
 frf:∀b∈X.fs,X.H₀ b=none
structure Inv (X:Cx) (pins:List (vF×Obj)) (σ:List (Option V)) (H:Hp) (s:vC):Prop where
 ok:X.Ok
 os:s.os=X.s₀.os
 bare:tV s.gens
 base:Un X.fs X.ex X.H₀ H X.s₀.heap s.heap
 loc:∃m,s.heap.Ns X.env.locals m/\∀(i:Nat)(x:Str)(v:V),X.N[i]?=some x->σ[i]?=some (some v)->Vis X.env.scope x->∃u,RelV v u/\Look X.env s.heap m x u
 cell:∀x c,X.env.cells.lookup x=some c->∃v,s.heap.IsCell c v
 free:H X.env.locals=none
 freeC:∀x c,X.env.cells.lookup x=some c->H c=none
 pin:∀p∈X.pn++pins,s.heap.get? p.1=some p.2/\H p.1=none/\p.1≠X.env.locals/\p.1∉X.fs/\∀v,p.2.data≠.cell v
 hok:HOk X.prog X.w H s.heap
 len:σ.length=X.N.length
section
variable{X:Cx}{pins:List (vF×Obj)}{σ:List (Option V)}{H H':Hp}{s:vC}{h':vk}
theorem Cx.Ok.nofr(ok:X.Ok){b:vF}{o:Obj}(e:X.base.get? b=some o):b∉X.fs:=λhb=>by
 have:=(ok.funs.mem hb).1;rw[e]at this;cases this
theorem Inv.bs(I:au):∀b o,X.base.get? b=some o->s.heap.get? b=some o/\H b=none:=λb o e=>
 ⟨I.base.keep b o (I.ok.bs b o e).1 (I.ok.bs b o e).2 (I.ok.nofr e) aa5,I.base.free b o (I.ok.bs b o e).1 (I.ok.bs b o e).2 aa5⟩
theorem Inv.bk(I:au):∀b o,X.base.get? b=some o->s.heap.get? b=some o:=λb o e=>(I.bs b o e).1
theorem Inv.mod(I:au):Mod X.K X.mg X.base:=I.ok.mod
theorem Inv.kIn(I:au):X.K.In s.heap:=I.ok.mod.kin.keeps I.bk
theorem Inv.lt(I:au):X.env.locals<s.heap.objs.size:=let ⟨_,hn,_⟩:=I.loc;hn.lt
theorem Inv.sz(I:au):X.s₀.heap.objs.size<=s.heap.objs.size:=yI I.ok.above (yh I.lt)
theorem Inv.nofs(I:au){a:vF}(h:aaL):a∉X.fs:=λhb=>by
 obtain⟨_,o,ho,_⟩:=I.ok.funs.mem hb;exact vP (yA (zN ho) (yI I.sz h)) Jn
theorem Inv.cne(I:au):∀x c,X.env.cells.lookup x=some c->c≠X.env.locals:=λx c e z=>by
 obtain⟨v,o,ho,hd⟩:=I.cell x c e;obtain⟨m,⟨o',es,ep,ho',hd',_⟩,_⟩:=I.loc;rw[z,ho']at ho;cases ho;rw[hd']at hd;cases hd
theorem Inv.funs(I:au):s.heap.FunFrames X.base X.outer:=by
 have all:∀(l:AU),(∀b∈frs l,b∈X.fs)->X.s₀.heap.FunFrames X.base l->s.heap.FunFrames X.base l:=by
  intro l
  induction l with
  | nil=>intro _ _;trivial
  | cons env r ih=>
   intro hs hl;obtain⟨hk,⟨L,o,hf,hn,ho,hd⟩,hr⟩:=hl;have hL:L∈X.fs:=hs L (by unfold frs;rw[wA,hf];exact zF);obtain⟨sl,e⟩:=I.base.slot L o ho (I.ok.frf L hL) hL λz=>I.ok.exfs L z hL;exact⟨hk,⟨L,_,hf,hn,e,hd⟩,ih (λb hb=>hs b (by unfold frs;rw[wA,hf];exact zH _ hb)) hr⟩
 exact all X.outer (λ_ hb=>hb) I.ok.funs
theorem Inv.stack(I:au):s.heap.FunFrames X.base X.stack:=by
 rcases I.ok.stk with e|⟨e,hf⟩
 ·rw[e];exact I.funs
 ·rw[e]
  obtain⟨m,hn,_⟩:=I.loc;refine .cons (by rw[I.ok.kind];decide) hf hn ?_ I.funs;exact Heap.get?_none_of_le (yI I.ok.bsz I.ok.above)
theorem Inv.stkSub(I:au):∀b∈frs X.stack,b∈X.env.locals::X.fs:=λb hb=>by
 rcases I.ok.stk with e|⟨e,hf⟩
 ·rw[e]at hb;exact zH _ hb
 ·rw[e]at hb
  unfold frs at hb;rw[wA,hf]at hb;exact hb
theorem Inv.stkFree(I:au):∀b∈frs X.stack,H b=none:=λb hb=>by
 rcases zG.mp (I.stkSub b hb)with e|hb
 ·rw[e];exact I.free
 ·obtain⟨_,o,ho,_⟩:=I.ok.funs.mem hb
  exact I.base.free b o ho (I.ok.frf b hb) λz=>I.ok.exfs b z hb
theorem Inv.step{g':Array sC}{t':Nat}{d':sy}{ch:cX}(I:au)(hch:∀b∈ch,jN/\b≠X.env.locals/\(∀x c,X.env.cells.lookup x=some c->c≠b)/\∀p∈X.pn++pins,p.1≠b)(keep:∀b o,b≠X.env.locals->b∉X.fs->b∉ch->s.heap.get? b=some o->H b=none->h'.get? b=some o)(slot:∀b o,b≠X.env.locals->b∈X.fs->b∉ch->s.heap.get? b=some o->H b=none->∃sl,h'.get? b=some { o with slots:=sl })(free:∀b o,b∉ch->s.heap.get? b=some o->H b=none->H' b=none)(there:∀b o,b∉ch->s.heap.get? b=some o->∃o',h'.get? b=some o')(tups:∀b xs,H b=some ph->H' b=some ph)(frzs:∀b o u,H b=some aba->H' b=some aba)(tbls:∀b ps,H b=some (.tbl ps)->∃more,H' b=some (.tbl (ps++more)))(ns:∀m,s.heap.Ns X.env.locals m->h'.Ns X.env.locals m)(hok:HH)(hg:tV g'):
  Inv X pins σ H' { s with heap:=h',gens:=g',drawn:=d',toks:=t' }:=by
 have neL:∀b o,X.s₀.heap.get? b=some o->b≠X.env.locals:=λb o e=>zy pC;have neC:∀b o,X.s₀.heap.get? b=some o->b∉X.ex->b∉ch:=λb o e hx hb=>by
  rcases (hch b hb).1 with z|z
  ·exact hx z
  ·exact vP (yA Ep z) Jn
 have cellK:∀x c,X.env.cells.lookup x=some c->∀v,s.heap.IsCell c v->h'.IsCell c v:=λx c e v Z_=>by
  obtain⟨o,ho,hd⟩:=Z_;have nch:c∉ch:=λz=>(hch c z).2.2.1 x c e rfl
  by_cases hc:c∈X.fs
  ·obtain⟨sl,q⟩:=slot c o (I.cne x c e) hc nch ho ML
   exact⟨_,q,hd⟩
  ·exact⟨o,keep c o (I.cne x c e) hc nch ho ML,hd⟩
 refine⟨I.ok,I.os,hg,⟨A8,A8,λb o e n hx=>?_,λb o e hx=>?_,λb xs e=>tups b xs (I.base.tups b xs e),λb o xs e=>frzs b o xs (I.base.frzs b o xs e),λb ps e=>?_⟩,?_,λx c e=>?_,?_,λx c e=>?_,At,hok,I.len⟩
 ·exact keep b o (neL b o e) hb FJ A7 CF
 ·obtain⟨sl,e1⟩:=I.base.slot b o e n hb hx
  obtain⟨sl',e2⟩:=slot b _ (neL b o e) hb FJ e1 CF;exact⟨sl',e2⟩
 ·obtain⟨o',e1⟩:=I.base.there b o e hx
  exact free b o' FJ e1 CF
 ·obtain⟨o',e1⟩:=I.base.there b o e hx
  exact there b o' FJ e1
 ·obtain⟨m1,e1⟩:=I.base.tbls b ps e
  obtain⟨m2,e2⟩:=tbls b _ e1;exact⟨m1++m2,by rw[e2,Array.append_assoc]⟩
 ·obtain⟨m,hn,hl⟩:=I.loc
  refine⟨m,ns m hn,Vl⟩;obtain⟨u,r,l⟩:=hl i x v e1 e2 e3;refine⟨u,r,?_⟩;rcases l with l|⟨k,c,e,z⟩
  ·exact .inl l
  ·exact .inr ⟨k,c,e,cellK x c e _ z⟩
 ·obtain⟨v,z⟩:=I.cell x c e
  exact⟨v,cellK x c e v z⟩
 ·obtain⟨m,⟨o,_,_,ho,_⟩,_⟩:=I.loc
  exact free _ o (λz=>(hch _ z).2.1 rfl) ho I.free
 ·obtain⟨v,o,ho,hd⟩:=I.cell x c e
  exact free c o (λz=>(hch c z).2.2.1 x c e rfl) ho ML
 ·obtain⟨e,n,ne,nf,d⟩:=I.pin p hp
  have nch:p.1∉ch:=λz=>(hch p.1 z).2.2.2 p hp rfl;exact⟨keep p.1 p.2 ne nf nch e n,free p.1 p.2 nch e n,ne,nf,d⟩
theorem Inv.un{t':Nat}(I:au)(u:Un X.fs [] H H' s.heap h')(hok:HH):Inv X pins σ H' { s with heap:=h',toks:=t' }:=by
 obtain⟨m,⟨o,es,ep,ho,r⟩,_⟩:=id I.loc;obtain⟨sl,hL⟩:=u.any ho I.free (by simp);exact I.step (g':=s.gens) (d':=s.drawn) (ch:=[]) (λ_ z=>nomatch z) (λb o _ hb _ e n=>u.keep b o e n hb (by simp)) (λb o _ hb _ e n=>u.slot b o e n hb (by simp)) (λb o _ e n=>u.free b o e n (by simp)) (λb o _ e=>u.there b o e (by simp)) u.tups u.frzs u.tbls (λm' hm=>by
  obtain⟨o',es',ep',ho',r'⟩:=hm;rw[ho]at ho';cases ho';exact Uv) hok I.bare
theorem Inv.call{g':Array sC}{t':Nat}{d':sy}{ch:cX}(I:au)(u:Un Pp ch H H' s.heap h')(hok:HH)(hg:tV g')(hch:∀b∈ch,jN/\b≠X.env.locals/\(∀x c,X.env.cells.lookup x=some c->c≠b)/\∀p∈X.pn++pins,p.1≠b):
  Inv X pins σ H' { s with heap:=h',gens:=g',drawn:=d',toks:=t' }:=by
 obtain⟨m,⟨o,es,ep,ho,r⟩,_⟩:=id I.loc;obtain⟨sl,hL⟩:=u.any ho I.free λz=>(hch _ z).2.1 rfl;exact I.step (ch:=ch) hch (λb o hL hb hc e n=>u.keep b o e n (λz=>(zG.mp (I.stkSub b z)).elim hL hb) hc) (λb o _ _ hc e n=>u.any e n hc) (λb o hc e n=>u.free b o e n hc) (λb o hc e=>u.there b o e hc) u.tups u.frzs u.tbls (λm' hm=>by
  obtain⟨o',es',ep',ho',r'⟩:=hm;rw[ho]at ho';cases ho';exact Uv) hok hg
theorem Inv.turned{t':Nat}{it:vF}(I:au)(k:∀b o,b≠it->s.heap.get? b=some o->h'.get? b=some o)(hn:H it=none)(hL:it≠X.env.locals)(h1:it∈X.ex\/X.s₀.heap.objs.size<=it)(h2:∀x c,X.env.cells.lookup x=some c->c≠it)(h3:∀p∈X.pn++pins,p.1≠it):Inv X pins σ H { s with heap:=h',toks:=t' }:=by
 have nit:∀b u,H b=some u->b≠it:=λb u e z=>by rw[z,hn]at e;cases e
 refine I.step (g':=s.gens) (d':=s.drawn) (ch:=[it]) kP (λb o _ _ hc e _=>k b o (λz=>hc (by simp[z])) e) (λb o _ _ hc e _=>⟨o.slots,k b o (λz=>hc (by simp[z])) e⟩) abr
  (λb o hc e=>⟨o,k b o (λz=>hc (by simp[z])) e⟩) (λ_ _ e=>e) adR (λb ps e=>⟨#[],by rw[e];simp⟩) (λm hm=>?_) (λb u e=>?_) I.bare
 ·have e:b=it:=by simpa using hb
  subst e;exact⟨h1,hL,h2,h3⟩
 ·obtain⟨o,es,ep,ho,r⟩:=hm
  exact⟨o,es,ep,k _ o (Ne.symm hL) ho,r⟩
 ·refine(I.hok b u e).stay O1 Nq λ_ _ q=>q
  rcases hc with z|z
  ·rw[z];exact nit b u e
  ·exact nit c _ z
theorem Inv.tok(I:au)(t:Nat):Inv X pins σ H { s with toks:=t }:=I.un (h':=s.heap) (t':=t) Un.refl I.hok
theorem Inv.kept{t':Nat}(I:au)(k:∀b u,s.heap.get? b=some u->h'.get? b=some u):Inv X pins σ H { s with heap:=h',toks:=t' }:=I.un (Un.kept k) (I.hok.kept k)
theorem Inv.laid{a:vF}{o:HO}{t':Nat}(I:au)(k:∀b u,s.heap.get? b=some u->h'.get? b=some u)(hp:aaL)(new:Xg X.prog X.w Fw h' a o):
  Inv X pins σ Fw { s with heap:=h',toks:=t' }:=I.un (Un.laid k hp (I.hok.fresh hp)) (I.hok.laid k hp new)
theorem Inv.write{x e:vF}{o:HO}{t':Nat}(I:au)(mu:Mut (H x))(he:EV)(k:∀b u,b≠e->s.heap.get? b=some u->h'.get? b=some u)(heo:∃u,h'.get? e=some u)(new:Xg X.prog X.w ST h' x o):Inv X pins σ ST { s with heap:=h',toks:=t' }:=I.un (Un.write mu he k heo) (I.hok.write mu he k heo new)
theorem Inv.pins_of{pins':aD}(I:au)(h:∀p∈pins',s.heap.get? p.1=some p.2/\H p.1=none/\p.1≠X.env.locals/\p.1∉X.fs/\∀v,p.2.data≠.cell v):Inv X pins' σ H s :=
 ⟨I.ok,I.os,I.bare,I.base,I.loc,I.cell,I.free,I.freeC,λp hp=>(zK.mp hp).elim (λz=>I.pin p SM) (h p),I.hok,I.len⟩
theorem q92{N:cg}(hN:N.Nodup){i j:Nat}{x:Str}(a:N[i]?=some x)(b:N[j]?=some x):i=j:=by
 obtain⟨h1,e1⟩:=zt.mp a;obtain⟨h2,e2⟩:=zt.mp b;exact(wK hN).mp (e1.trans e2.symm)
theorem q8g{M:Model}{A:vg}{E:aQ}{i:Nat}{x:Str}{v:V}{u:vB}{Q:ro}(I:au)(hN:X.N.Nodup)(hi:X.N[i]?=some x)(hx:fq)(r:aak)(h:∀s',Inv X pins Ck H s'->(∃a,xu a s.heap s'.heap/\(a=X.env.locals\/X.env.cells.lookup x=some a))->Q () s')(hf:aN:=by first|exact .inl rfl|exact .inr rfl|assumption):vQ M A RQ Q E s:=by
 obtain⟨m,hn,hl⟩:=id I.loc;have hcls:(X.env.scope.kind == .class || (X.env.scope.kind == .module&&X.env.locals != X.env.globals))=false:=by rw[I.ok.kind];rfl
 have hiσ:i<σ.length:=by rw[I.len];exact(zt.mp hi).1
 have cne:=I.cne;have tracked:∀{a:vF}{h':vk},(∃o,s.heap.get? a=some o/\H a=none)->xu a s.heap h'->HOk X.prog X.w H h':=λ{a h'} ha hs b ob e=>by
  obtain⟨_,_,hfree⟩:=ha;refine(I.hok b ob e).stay (λc w' hc q=>(hs.2 c ?_).trans q) Nq λ_ _ q=>q;rintro rfl;rcases hc with rfl|hc
  ·rw[hfree]at e;cases e
  ·rw[hfree]at hc;cases hc
 rcases hx with hk|hk
 ·refine wpAny_storeName_local hk hn (λh' hn' hs=>?_) hcls
  obtain⟨oL,_,_,hoL,_⟩:=id hn;refine h _ ⟨I.ok,I.os,I.bare,jx,⟨_,hn',Uz⟩,λy c e=>?_,I.free,I.freeC,At,tracked ⟨oL,hoL,I.free⟩ hs,by simpa using I.len⟩ ⟨_,hs,bC⟩
  ·exact(hs.2 b (zy pC)).trans A7
  ·obtain⟨sl,e1⟩:=I.base.slot b o e n hb hx
   exact⟨sl,QE⟩
  ·obtain⟨o',e1⟩:=I.base.there b o e hx
   exact⟨o',QE⟩
  ·by_cases hj:j=i
   ·subst hj
    rw[hi]at e1;cases e1;rw[yV hiσ]at e2;cases e2;exact⟨u,r,.inl ⟨hk,by simp⟩⟩
   ·rw[zI (Ne.symm hj)]at e2
    obtain⟨u',r',q⟩:=hl j y v' e1 e2 e3;refine⟨u',r',?_⟩;rcases q with⟨k,e⟩|⟨k,c,e,z⟩
    ·refine .inl ⟨k,?_⟩
     have:y≠x:=λe=>hj (q92 hN e1 (e▸hi));simp[this,e]
    ·exact .inr ⟨k,c,e,QP⟩
  ·obtain⟨w',z⟩:=I.cell y c e
   exact⟨w',QP⟩
  ·obtain⟨e,n,ne,nf,d⟩:=I.pin p hp
   exact⟨(hs.2 p.1 ne).trans e,n,ne,nf,d⟩
 ·have hfn:X.fn x=true:=by
   rcases hf with z|z
   ·exact z
   ·rw[z]at hk;cases hk
  obtain⟨c,hc⟩:=I.ok.has x (.inl hk);obtain⟨w',z⟩:=I.cell x c hc;refine wpAny_storeName_cell I.ok.kind hk hc z (λh' hc' hs=>?_);obtain⟨oc,hoc,hocd⟩:=id z;refine h { s with heap:=h' } ⟨I.ok,I.os,I.bare,jx,⟨m,hn.sameBut hs (Ne.symm (cne x c hc)),Uz⟩,λy c' e=>?_,I.free,I.freeC,At,tracked ⟨oc,hoc,I.freeC x c hc⟩ hs,by simpa using I.len⟩ ⟨c,hs,.inr hc⟩
  ·exact(hs.2 b mZ).trans A7
  ·obtain⟨sl,e1⟩:=I.base.slot b o e n hb hx
   exact⟨sl,aaz⟩
  ·obtain⟨o',e1⟩:=I.base.there b o e hx
   exact⟨o',aaz⟩
  ·by_cases hj:j=i
   ·subst hj
    rw[hi]at e1;cases e1;rw[yV hiσ]at e2;cases e2;exact⟨u,r,.inr ⟨.inl hk,c,hc,hc'⟩⟩
   ·rw[zI (Ne.symm hj)]at e2
    obtain⟨u',r',q⟩:=hl j y v' e1 e2 e3;refine⟨u',r',?_⟩;rcases q with q|⟨k,c',e,z'⟩
    ·exact .inl q
    ·refine .inr ⟨k,c',e,z'.sameBut hs ?_⟩
     rintro rfl;exact hj (q92 hN e1 (I.ok.inj _ _ _ e hc▸hi))
  ·by_cases hcc:c'=c
   ·subst hcc;exact⟨_,hc'⟩
   ·obtain⟨w2,z2⟩:=I.cell y c' e
    exact⟨w2,z2.sameBut hs hcc⟩
  ·obtain⟨e,n,ne,nf,d⟩:=I.pin p hp
   refine⟨(hs.2 p.1 ?_).trans e,n,ne,nf,d⟩;intro q;rw[q,hoc]at e;have q':oc=p.2:=zr e;exact d w' (by rw[<- q'];exact hocd)
theorem q6a{M:Model}{A:vg}{E:aQ}{i:Nat}{x:Str}{v:V}{u:vB}{Q:ro}(I:au)(hN:X.N.Nodup)(hi:X.N[i]?=some x)(hx:fq)(r:aak)(h:∀s',Inv X pins Ck H s'->Q () s')(hf:aN:=by first|exact .inl rfl|exact .inr rfl|assumption):vQ M A RQ Q E s :=
 q8g I hN hi hx r (λs' I' _=>h s' I') hf
theorem Inv.call'{s':vC}{ch:cX}(I:au)(ho:s'.os=s.os)(u:Un Pp ch H H' s.heap s'.heap)(hok:HOk X.prog X.w H' s'.heap)(hg:tV s'.gens)(hch:∀b∈ch,jN/\b≠X.env.locals/\(∀x c,X.env.cells.lookup x=some c->c≠b)/\∀p∈X.pn++pins,p.1≠b):Inv X pins σ H' s':=by
 obtain⟨h',g',d',t',o'⟩:=s';have e:o'=s.os:=ho;subst e;exact I.call (g':=g') (t':=t') (d':=d') u hok hg hch
end
abbrev XK:=vB->Option vF->Hp->Prop
noncomputable abbrev St:=List jP
abbrev VK:=V->Hp->Prop
abbrev TE:=St->Hp->VK->Prop
abbrev TT:=St->Hp->j8->Prop
abbrev TA:=St->Hp->nV->Prop
structure Ends where
 nx:St->Hp->Prop
 rt:VK
 bk:St->Hp->Prop:=λ_ _=>False
 ct:St->Hp->Prop:=λ_ _=>False
abbrev TS:=Ends->St->Hp->Prop
def EP(X:Cx)(pins:aD)(σ:St)(Q:VK)(u:vB)(s':vC):Prop:=∃v H',Inv X pins σ H' s'/\RelV v u/\Q v H'
def TP(X:Cx)(pins:aD)(σ:St)(Q:j8)(b:Bool)(s':vC):Prop:=∃H',Inv X pins σ H' s'/\Q b H'
def AP(X:Cx)(pins:aD)(σ:St)(Q:nV)(us:bu)(s':vC):Prop:=∃vs H',Inv X pins σ H' s'/\Xf vs us/\Q vs H'
def SP(X:Cx)(pins:aD)(D:Ends)(f:Flow)(s':vC):Prop :=
 match f with
 | .next=>∃σ' H',Inv X pins σ' H' s'/\D.nx σ' H'
 | .brk=>∃σ' H',Inv X pins σ' H' s'/\D.bk σ' H'
 | .cont=>∃σ' H',Inv X pins σ' H' s'/\D.ct σ' H'
 | .ret u=>∃v σ' H',Inv X pins σ' H' s'/\RelV v u/\D.rt v H'
def PE(X:Cx)(e:vW)(t:TE):Prop :=
 ∀(pins:aD)(s:vC)(σ:St)(H:Hp)(Q:VK),Inv X pins σ H s->t σ H Q->vQ aq X.A NW cT X.xe s
def PT(X:Cx)(e:vW)(t:TT):Prop :=
 ∀(pins:aD)(s:vC)(σ:St)(H:Hp)(Q:j8),Inv X pins σ H s->t σ H Q->vQ aq X.A (rG e X.env NW) Ds X.xe s
def PW(X:Cx)(e:vW)(t:TT):Prop :=
 ∀(whole:Sem vB)(pins:aD)(s:vC)(σ:St)(H:Hp)(Q:j8),Inv X pins σ H s->t σ H Q->vQ aq X.A (rG e X.env whole) Ds X.xe s
theorem PW.pt{X:Cx}{e:vW}{t:TT}(h:PW X e t):PT X e t:=h _
def PA(X:Cx)(es:jw)(t:TA):Prop :=
 ∀(pos:Pos)(pins:aD)(s:vC)(σ:St)(H:Hp)(Q:nV),Inv X pins σ H s->t σ H Q->vQ aq X.A (spliced (vo pos iV)) ab7 X.xe s
def PS(X:Cx)(st:vm)(t:TS):Prop :=
 ∀(pins:aD)(s:vC)(σ:St)(H:Hp)(D:Ends),Inv X pins σ H s->t D σ H->vQ aq X.A (exec st X.env) (SP X pins D) X.xe s
def PSs(X:Cx)(st:pz)(t:TS):Prop :=
 ∀(pins:aD)(s:vC)(σ:St)(H:Hp)(D:Ends),Inv X pins σ H s->t D σ H->vQ aq X.A (execs st X.env) (SP X pins D) X.xe s
theorem thn{α:Type}{t:Sem α}{Q Q':α->vC->Prop}{M:Model}{A:vg}{E:aQ}{s:vC}(h:vQ M A t Q E s)(hQ:∀a s,Q a s->Q' a s):vQ M A t Q' E s:=v9 h hQ λ_ _ x=>x
section
variable{X:Cx}
noncomputable def Xk(i:Nat):TE:=λσ H Q=>∃v,σ[i]?=some lO/\Q v H
noncomputable def tC(v:V):TE:=λ_ H Q=>Q v H
theorem qja{i:Nat}{x:Str}{pos:Pos}(hN:X.N[i]?=some x)(hv:p7)(hd:aM:=by decide)(hcd:gP:=by decide):PE X jd LU:=by
 intro pins s σ H Q I h;obtain⟨v,e,h⟩:=h;obtain⟨m,hn,hl⟩:=I.loc;obtain⟨u,r,l⟩:=hl i x v hN e hv;have fin:EP X pins σ Q u s:=Nn;rcases l with⟨hk,hm⟩|⟨hk,c,hc,hcell⟩
 ·exact wpAny_Name (sD I.ok.kind hk hn hm fin) hd
 ·rcases hk with hk|hk
  ·exact wpAny_Name (sQ I.ok.kind hk hc hcell fin) hd
  ·exact wpAny_Name (wpAny_loadName_free I.ok.kind hk hc hcell fin hcd) hd
theorem q5t{i j pos}:PE X Uj (tC iR):=λ_ _ _ H _ I h=>wpAny_Constant_int ⟨iR,H,jG,bD,h⟩
theorem q5F{b j pos}:PE X Nj (tC Ni):=λ_ _ _ H _ I h=>Constant_bool ⟨Ni,H,I,rfl,h⟩
theorem qiX{x j pos}:PE X Uk (tC L5):=λ_ _ _ H _ I h=>Calls.Constant_str ⟨L5,H,jG,bD,h⟩
def Gl(X:Cx)(x:Str):Prop:=X.env.kindOf x=some .globalImplicit
theorem qbE{E:aQ}{pins:aD}{s:vC}{σ:St}{H:Hp}{x:Str}{u:vB}{pos:Pos}{Q:aQ}(I:au)(hg:Bz)(hm:X.mg x=some u)(h:Q u s)(hd:aM:=by decide):vQ aq X.A ac0 Q E s :=
 Calls.Name_function_global I.ok.kind hg (Calls.loadGlobal_global (by rw[I.ok.glob];exact I.mod.glob.keeps I.bk) hm h) hd
theorem q17{E:aQ}{pins:aD}{s:vC}{σ:St}{H:Hp}{x:Str}{u:vB}{pos:Pos}{Q:aQ}(I:au)(hg:Bz)(hm:AQ)(hv:vn x=some u)(h:Q u s)(hn:kQ:= by decide)(hd:aM:=by decide):vQ aq X.A ac0 Q E s:=by
 obtain⟨mb,h1,h2⟩:=I.mod.blt;exact Calls.Name_function_global I.ok.kind hg (Calls.loadGlobal_builtin (by rw[I.ok.glob];exact I.mod.glob.keeps I.bk) hm (by rw[I.ok.blt];exact h1.keeps I.bk) ((h2 x hn).trans hv) h) hd
theorem qhk{x:Str}{v:V}{u:vB}{pos:Pos}(hg:Bz)(hm:X.mg x=some u)(r:aak)(hd:aM:=by decide):PE X jd (tC v) :=
 λ_ _ _ H _ I h=>qbE I hg hm Nn hd
theorem qhe{x:Str}{v:V}{u:vB}{pos:Pos}(hg:Bz)(hm:AQ)(hv:vn x=some u)(r:aak)(hn:kQ:= by decide)(hd:aM:=by decide):PE X jd (tC v) :=
 λ_ _ _ H _ I h=>q17 I hg hm hv Nn hn hd
variable{a b:vW}{ta tb:TE}{pos:Pos}
def PC(X:Cx)(op:rA)(a b:vW)(t:TE):Prop :=
 ∀(pins:aD)(s:vC)(σ:St)(H:Hp)(Q:VK),Inv X pins σ H s->t σ H Q ->
  vQ aq X.A aeq (λv s₁=>vQ aq X.A aep (λu s₂=>vQ aq X.A (uW op v u) cT X.xe s₂) X.xe s₁) X.xe s
theorem zCI(b:vW){op:rA}(h:op≠.In)(h2:op≠.NotIn):uM op b=false:=by
 have e1:aeb=false:=by cases op <;> first|rfl|exact vP rfl h
 have e2:aaS=false:=by cases op <;> first|rfl|exact vP rfl h2
 cases b <;> simp[uM,e1,e2]
noncomputable def tB(t:TE):TT:=λσ H Q=>t σ H λx H1=>∃c,x=.bl c/\Q c H1
theorem qiR{op:rA}{t:TE}(h:PC X op a b t)(h1:Dg:=by first|exact zCI _ (by decide) (by decide)|rfl):PT X kz (tB t):=by
 intro pins s σ H Q I hw;refine t6 (thn Rb λv s1 h1=>thn h1 λu s2 h2=>thn h2 λc s3 Z_=>?_) h1;obtain⟨x,H1,I1,r1,q1⟩:=Z_;obtain⟨d,rfl,q⟩:=q1;cases r1;exact uY ⟨H1,I1,q⟩
variable{tA tB':TT}{rest:List vW}
noncomputable def tAnd(t u:TT):TT:=λσ H Q=>t σ H λc H1=>if c=true then u σ H1 Q else Q false H1
noncomputable def tOr(t u:TT):TT:=λσ H Q=>t σ H λc H1=>if c=true then Q true H1 else u σ H1 Q
noncomputable def tNot(t:TT):TT:=λσ H Q=>t σ H λc H1=>Q (!c) H1
theorem qhx(ha:MG):PW X RC tA:=by
 intro wh pins s σ H Q I h;refine isTrue_and Et;cases c with
 | true=>exact isTrue_and_nil e
 | false=>exact e
theorem qeh(ha:MG):PW X Sq tA:=by
 intro wh pins s σ H Q I h;refine isTrue_or Et;cases c with
 | false=>exact isTrue_or_nil e
 | true=>exact e
theorem qj9(ha:MG)(hb:PW X mm tB'):PW X k8 (tAnd tA tB'):=by
 intro wh pins s σ H Q I h;refine isTrue_and QY;obtain⟨H1,I1,q1⟩:=Z_;cases c with
 | true=>exact hb wh pins s1 σ H1 Q I1 q1
 | false=>exact⟨H1,I1,q1⟩
theorem qgY(ha:MG)(hb:PW X Nk tB'):PW X Lu (tOr tA tB'):=by
 intro wh pins s σ H Q I h;refine isTrue_or QY;obtain⟨H1,I1,q1⟩:=Z_;cases c with
 | true=>exact⟨H1,I1,q1⟩
 | false=>exact hb wh pins s1 σ H1 Q I1 q1
theorem qix(ha:MG):PT X rQ (tNot tA):=by
 intro pins s σ H Q I h;exact isTrue_not (ha pins s σ H (λc H1=>Q (!c) H1) I h)
noncomputable def tAndV(ta tb:TE):TE:=λσ H Q=>ta σ H λx H1=>∃c,x=.bl c/\if c=true then tb σ H1 Q else Q dM H1
noncomputable def tNotV(ta:TE):TE:=λσ H Q=>ta σ H λx H1=>∃c,x=.bl c/\Q (.bl (!c)) H1
theorem qiv{op}{t:TE}(h:PE X a t):PE X Ul t:=λpins s σ H Q I hw=>BoolOp_one (h pins s σ H Q I hw)
theorem qiw(ha:pH)(hb:PE X mm tb):PE X k8 (tAndV ta tb):=by
 intro pins s σ H Q I h;refine BoolOp_and QX;obtain⟨x,H1,I1,r1,q1⟩:=Z_;obtain⟨c,rfl,q1⟩:=q1;cases r1;refine uY ?_;cases c with
 | true=>exact hb pins s1 σ H1 Q I1 q1
 | false=>exact⟨dM,H1,I1,rfl,q1⟩
theorem qiD(ha:pH):PE X rQ (tNotV ta):=by
 intro pins s σ H Q I h;refine UnaryOp_ QX;obtain⟨x,H1,I1,r1,q1⟩:=Z_;obtain⟨c,rfl,q1⟩:=q1;cases r1;exact not_of (uY ⟨.bl (!c),H1,I1,rfl,q1⟩)
noncomputable def tIf(t:TT)(ta tb:TE):TE:=λσ H Q=>t σ H λc H1=>if c=true then ta σ H1 Q else tb σ H1 Q
theorem qfq{c:vW}(hc:PT X c tA)(ha:pH)(hb:Jc):PE X aaw (tIf tA ta tb):=by
 intro pins s σ H Q I h;refine wpAny_IfExp DO;obtain⟨H1,I1,q1⟩:=Z_;cases d with
 | true=>exact ha pins s1 σ H1 Q I1 q1
 | false=>exact hb pins s1 σ H1 Q I1 q1
end
def SqL(K:zC)(H:Hp)(a:vF)(xs:bg):Prop :=
 Rd H a dk \/
  ∃(o:Obj) (its:dI) (n:Nat),K.lookup a=some o/\o.cls=.type "list" /\ o.dict=none/\o.data=.seq its n/\its.size<=sizeLine/\Xf xs its.toList
def SqT(K:zC)(H:Hp)(a:vF)(xs:bg):Prop :=
 Rd H a ph \/
  ∃(o:Obj) (its:dI) (n:Nat),K.lookup a=some o/\o.cls=.type "tuple" /\ o.data=.seq its n/\its.size<=sizeLine/\Xf xs its.toList
noncomputable def absV:vB->Option V
 | .none=>some .non
 | .bool b=>some Ni
 | .int i _=>some iR
 | .str x _=>some L5
 | .bytes b _=>some (.byt b)
 | .float b _=>some (.flt b)
 | .ref a=>some dH
 | .type n=>some (.ty n)
 | _=>none
theorem RelV.abs{x:V}{u:vB}(r:RelV x u):absV u=some x:=by
 cases x with
 | non=>cases r;rfl
 | bl _=>cases r;rfl
 | int _=>obtain⟨t,rfl⟩:=r;rfl
 | str _=>obtain⟨t,rfl⟩:=r;rfl
 | byt _=>obtain⟨t,rfl⟩:=r;rfl
 | flt _=>obtain⟨t,rfl⟩:=r;rfl
 | ref _=>cases r;rfl
 | ty _=>cases r;rfl
theorem RelV.inj{x y:V}{u:vB}(r:RelV x u)(q:Ce):x=y:=zr (r.abs.symm.trans q.abs)
theorem Xf.inj:∀{xs ys:bg}{us:bu},Xf xs us->Xf ys us->xs=ys
 | _,_,_,.nil,.nil=>rfl
 | _,_,_,.cons r t,.cons r' t'=>by rw[r.inj r',Xf.inj t t']
section
variable{X:Cx}{pins:List (vF×Obj)}{σ:St}{H:Hp}{s:vC}{a:vF}{xs ys:List V}
theorem SqL.of{K:zC}(h:H a=some dk):SqL K H a xs:=.inl (.inl h)
theorem SqT.of{K:zC}(h:H a=some ph):SqT K H a xs:=.inl (.inl h)
theorem Inv.list(I:au)(h:SqL X.K H a xs):∃its:List vB,Xf xs its/\PlainL s.heap a its.toArray/\xs.length<=sizeLine:=by
 rcases h with h|⟨o,its,n,hk,hc,hd,hs,hz,r⟩
 ·obtain⟨z,its,n,r,e⟩:=h.ok I.hok
  exact⟨its,r,⟨_,n,e,rfl,rfl,rfl⟩,z⟩
 ·refine⟨its.toList,r,⟨o,n,I.kIn a o hk,hc,hd,by simpa using hs⟩,?_⟩
  have e:=r.length;simp only[zO]at e;omega
theorem Inv.tuple(I:au)(h:SqT X.K H a xs):∃its:List vB,Xf xs its/\IsTup s.heap a its.toArray/\xs.length<=sizeLine:=by
 rcases h with h|⟨o,its,n,hk,hc,hs,hz,r⟩
 ·obtain⟨z,its,r,p⟩:=h.ok I.hok
  exact⟨its,r,p,z⟩
 ·refine⟨its.toList,r,⟨o,I.kIn a o hk,hc,n,by simpa using hs⟩,?_⟩
  have e:=r.length;simp only[zO]at e;omega
theorem Inv.list_inj(I:au)(h:SqL X.K H a xs)(h':SqL X.K H a ys):xs=ys:=by
 obtain⟨its,r,⟨o,n,e,_,_,d⟩,_⟩:=I.list h;obtain⟨its',r',⟨o',n',e',_,_,d'⟩,_⟩:=I.list h';rw[e]at e';cases e';rw[d]at d';injection d' with d1 _;have:its=its':=by simpa using uB Yw d1
 subst this;exact r.inj r'
theorem Inv.tuple_inj(I:au)(h:SqT X.K H a xs)(h':SqT X.K H a ys):xs=ys:=by
 obtain⟨its,r,⟨o,e,_,n,d⟩,_⟩:=I.tuple h;obtain⟨its',r',⟨o',e',_,n',d'⟩,_⟩:=I.tuple h';rw[e]at e';cases e';rw[d]at d';injection d' with d1 _;have:its=its':=by simpa using uB Yw d1
 subst this;exact r.inj r'
end
noncomputable abbrev Cx.wish(X:Cx)(E:aQ):Cx:={ X with xe:=E }
noncomputable abbrev Cx.nox(X:Cx):Cx:=X.wish λ_ _=>False
theorem Cx.Ok.wish{X:Cx}(ok:X.Ok)(E:aQ):(X.wish E).Ok :=
 ge
theorem Cx.Ok.unwish{X:Cx}{E:aQ}(ok:(X.wish E).Ok):X.Ok :=
 ge
section
variable{X:Cx}{pins:List (vF×Obj)}{σ:St}{H:Hp}{s:vC}{E:vB->vC->Prop}
theorem Inv.wish(I:au)(E:aQ):Inv aai pins σ H s:=⟨I.ok.wish E,I.os,I.bare,I.base,I.loc,I.cell,I.free,I.freeC,I.pin,I.hok,I.len⟩
theorem Inv.unwish(I:Inv aai pins σ H s):Inv X pins σ H s:=⟨I.ok.unwish,I.os,I.bare,I.base,I.loc,I.cell,I.free,I.freeC,I.pin,I.hok,I.len⟩
theorem SP.unwish{D:Ends}{f:Flow}{s':vC}(h:SP aai pins D f s'):SP X pins D f s':=by
 cases f with
 | next=>obtain⟨σ',H',I,q⟩:=h;exact DI
 | brk=>obtain⟨σ',H',I,q⟩:=h;exact DI
 | cont=>obtain⟨σ',H',I,q⟩:=h;exact DI
 | ret u=>obtain⟨v,σ',H',I,r,q⟩:=h;exact⟨v,σ',H',I.unwish,r,q⟩
theorem PSs.nox{st:pz}{t:TS}(h:PSs X.nox st t):PSs X st t:=λpins s σ H D I hw=>
 v9 (h pins s σ H D (I.wish _) hw) (λ_ _ q=>q.unwish) λ_ _ z=>False.elim z
end
section
variable{X:Cx}{st:vm}{rest:List vm}{t u:TS}{e:vW}{te:TE}{pos:Pos}
noncomputable def zBV:TS:=λD σ H=>D.nx σ H
noncomputable def zAv(t u:TS):TS:=λD σ H=>t { D with nx:=u D } σ H
theorem q2U:PSs X [] zBV:=λ_ _ σ H _ I h=>tH ⟨σ,H,I,h⟩
theorem ql(h1:PS X st t)(h2:PSs X rest u):PSs X VE (zAv t u):=by
 intro pins s σ H D I h;refine wpAny_execs_cons (thn (h1 pins s σ H { D with nx:=u D } I h) λf s1 q=>?_);cases f with
 | next=>
  obtain⟨σ',H',I',q⟩:=q;exact h2 pins s1 σ' H' D I' q
 | ret v=>exact q
 | brk=>exact q
 | cont=>exact q
theorem qy(h1:PS X st t):PSs X [st] t:=by
 intro pins s σ H D I h;refine wpAny_execs_cons (thn (h1 pins s σ H D I h) λf s1 q=>?_);cases f with
 | next=>exact tH q
 | ret v=>exact q
 | brk=>exact q
 | cont=>exact q
theorem Inv.quiet{pins:aD}{σ:St}{H:Hp}{s:vC}(I:au):interactive X.env=false:=by simp[interactive,I.ok.kind]
noncomputable def zAy(te:TE):TS:=λD σ H=>te σ H λ_ H1=>D.nx σ H1
theorem q0i(he:pG)(hs:Jp:=by rfl):PS X (.Expr e pos) (zAy te):=by
 intro pins s σ H D I h;exact wpAny_Expr_any (thn jT λv s1 ⟨x,H1,I1,r1,q1⟩=>⟨σ,H1,I1,q1⟩) I.quiet hs
noncomputable def zCC(te:TE):TS:=λD σ H=>te σ H D.rt
theorem q0e(he:pG):PS X rh (zCC te):=by
 intro pins s σ H D I h;exact wpAny_Return_some (thn jT λv s1 ⟨x,H1,I1,r1,q1⟩=>⟨x,σ,H1,I1,r1,q1⟩)
noncomputable def zCh(c:TT)(t u:TS):TS:=λD σ H=>c σ H λb H1=>if b=true then t D σ H1 else u D σ H1
theorem q4L{c:vW}{a b:pz}{tc:TT}(hc:PT X c tc)(ha:PSs X a t)(hb:PSs X b u):PS X adH (zCh tc t u):=by
 intro pins s σ H D I h;refine wpAny_If DO;obtain⟨H1,I1,q1⟩:=Z_;cases d with
 | true=>exact ha pins s1 σ H1 D I1 q1
 | false=>exact hb pins s1 σ H1 D I1 q1
noncomputable def tNever:TS:=λ_ _ _=>False
theorem qff:PS X st tNever:=λ_ _ _ _ _ _ h=>h.elim
end
abbrev TG:=V->St->Hp->gJ->Prop
abbrev TGs:=List V->St->Hp->gJ->Prop
def PG(X:Cx)(target:vW)(t:TG):Prop :=
 ∀(pins:aD)(s:vC)(σ:St)(H:Hp)(v:V)(u:vB)(Q:gJ),Inv X pins σ H s->RelV v u->t v σ H Q ->
  vQ aq X.A (assign target X.env u) (λ_ s'=>∃σ' H',Inv X pins σ' H' s'/\Q σ' H') X.xe s
def PGs(X:Cx)(ts:jw)(t:TGs):Prop :=
 ∀(pins:aD)(s:vC)(σ:St)(H:Hp)(vs:bg)(us:bu)(Q:gJ),Inv X pins σ H s->Xf vs us->t vs σ H Q ->
  vQ aq X.A (assignInOrder ((uZ ts X.env).map (·.2)) us) (λ_ s'=>∃σ' H',Inv X pins σ' H' s'/\Q σ' H') X.xe s
abbrev TIp:=V->V->Hp->VK->Prop
def PIp(X:Cx)(op:se)(t:TIp):Prop :=
 ∀(pins:aD)(s:vC)(σ:St)(H:Hp)(x y:V)(v u:vB)(Q:VK),Inv X pins σ H s->RelV x v->RelV y u->t x y H Q ->
  vQ aq X.A (inplaceOp op v u) cT X.xe s
section
variable{X:Cx}{pos:Pos}
noncomputable def Xn(i:Nat):TG:=λv σ H Q=>Q Ck H
theorem q0S{i:Nat}{x:Str}(hN:X.N.Nodup)(hi:X.N[i]?=some x)(hx:fq)(hf:aN:=by first|exact .inl rfl|exact .inr rfl|assumption):PG X jd aaf:=by
 intro pins s σ H v u Q I r h;exact wpAny_assign_Name (q6a I hN hi hx r (λs' I'=>⟨_,H,I',h⟩) hf)
noncomputable def gNil:TGs:=λvs σ H Q=>vs=[]/\Q σ H
noncomputable def gCons(t:TG)(u:TGs):TGs:=λvs σ H Q=>∃v r,vs=v::r/\t v σ H λσ' H'=>u r σ' H' Q
theorem qbB:PGs X [] gNil:=by
 intro pins s σ H vs us Q I r h;obtain⟨e,h⟩:=h;subst e;cases r;exact assignInOrder_nil ⟨σ,H,I,h⟩
theorem q60{e:vW}{es:jw}{t:TG}{u:TGs}(h1:PG X e t)(h2:PGs X es u)(hs:(uZ kw X.env).map (·.2)=assign e X.env::(uZ es X.env).map (·.2):=by rfl):PGs X kw (gCons t u):=by
 intro pins s σ H vs us Q I r h;obtain⟨v,vr,e1,h⟩:=h;subst e1;cases r with
 | cons r rr=>
  rw[hs];refine assignInOrder_cons (thn (h1 pins s σ H _ _ _ I r h) λ_ s1 Z_=>?_);obtain⟨σ1,H1,I1,q1⟩:=Z_;exact h2 pins s1 σ1 H1 _ _ Q I1 rr q1
noncomputable def gTup(K:zC)(n:Nat)(t:TGs):TG:=λv σ H Q=>∃a xs,v=.ref a/\SqT K H a xs/\xs.length=n/\t xs σ H Q
theorem qdp{es:jw}{k:Nat}{t:TGs}{n:Nat}(hc:cV)(h:PGs X es t)(hn:Uo:=by rfl)(hst:(uZ es X.env).findIdx? (·.1)=none:=by rfl):PG X abc (gTup X.K n t):=by
 intro pins s σ H v u Q I r hw;obtain⟨a,xs,e1,hq,hl,hw⟩:=hw;subst e1;cases r;obtain⟨its,rv,ht,hz⟩:=I.tuple hq;refine assign_Tuple_tuple jV ht (by simp[hn,<- hl,rv.length]) hst λh' hx=>?_;have I1:Inv X pins σ H { s with heap:=h' }:=I.kept (t':=s.toks) λb o e=>hx b o (zy Ep) e;exact h pins _ σ H xs _ Q I1 ⇑rv hw
noncomputable def We(te:TE)(g:TG):TS:=λD σ H=>te σ H λx H1=>g x σ H1 D.nx
theorem qjp{tg e:vW}{te:TE}{g:TG}(he:pG)(hg:PG X tg g)(hs:Dj:=by rfl)(hw:IB:=by rfl)(h1:(uZ [tg] X.env).map (·.2)=ac3:=by rfl):PS X Um (We te g):=by
 intro pins s σ H D I h;refine wpAny_Assign_stores DN hs hw;obtain⟨x,H1,I1,r1,q1⟩:=Z_;rw[h1];exact thn (hg pins s1 σ H1 x v _ I1 r1 q1) λ_ s2 q=>q
theorem qL{i:Nat}{x:Str}{e:vW}{te:TE}{pos':Pos}(hN:X.N.Nodup)(hi:X.N[i]?=some x)(hx:fq)(he:pG)(hs:mP:=by rfl)(hf:aN:=by first|exact .inl rfl|exact .inr rfl|assumption):
  PS X nh Bv:=by
 intro pins s σ H D I h;refine wpAny_Assign_Name DN hs;obtain⟨y,H1,I1,r1,q1⟩:=Z_;exact q6a I1 hN hi hx r1 (λs2 I2=>⟨_,H1,I2,q1⟩) hf
noncomputable def tAug(i:Nat)(te:TE)(ti:TIp):TS:=λD σ H=>∃x,σ[i]?=some (some x)/\te σ H λy H1=>ti x y H1 λz H2=>D.nx (σ.set i (some z)) H2
theorem qj2{i:Nat}{x:Str}{e:vW}{te:TE}{op:se}{ti:TIp}{pos':Pos}(hN:X.N.Nodup)(hi:X.N[i]?=some x)(hx:fq)(he:pG)(ho:PIp X op ti)(hf:aN:=by first|exact .inl rfl|exact .inr rfl|assumption):
  PS X P2 (tAug i te ti):=by
 intro pins s σ H D I h;obtain⟨v,e1,h⟩:=h;obtain⟨m,hn,hl⟩:=I.loc;have vis:Vis X.env.scope x:=by rcases hx with k|k;exact .inl k;exact .inr (.inl k)
 obtain⟨u,r,l⟩:=hl i x v hi e1 vis;refine wpAny_AugAssign_Name ?_;have go:vQ aq X.A NW (λw s₂=>vQ aq X.A (inplaceOp op u w) (λr s₃=>vQ aq X.A (storeName X.env x r) (λ_=>SP X pins D .next) X.xe s₃) X.xe s₂) X.xe s:=by
  refine thn jT λw s1 Z_=>?_;obtain⟨y,H1,I1,r1,q1⟩:=Z_;refine thn (ho pins s1 σ H1 v y u w _ I1 r r1 q1) λz s2 Z_=>?_;obtain⟨zv,H2,I2,r2,q2⟩:=Z_;exact q6a I2 hN hi hx r2 (λs3 I3=>⟨_,H2,I3,q2⟩) hf
 rcases l with⟨hk,hm⟩|⟨hk,c,hc,hcell⟩
 ·exact sD I.ok.kind hk hn hm go
 ·rcases hk with hk|hk
  ·exact sQ I.ok.kind hk hc hcell go
  ·rcases hx with k|k
   ·have:X.env.scope.names.lookup x=some .free:=hk
    rw[k]at this;cases this
   ·have:X.env.scope.names.lookup x=some .free:=hk
    rw[k]at this;cases this
noncomputable def ipI(f:AI):TIp:=λx y H Q=>∃i j,x=.int i/\y=.int j/\Q (.int (f i j)) H
theorem qis:PIp X .Add (ipI λi j=>i+j):=by
 intro pins s σ H x y v u Q I r1 r2 h;obtain⟨i,j,e1,e2,q⟩:=h;subst e1;subst e2;obtain⟨t,rfl⟩:=r1;obtain⟨t',rfl⟩:=r2;exact iadd_int ⟨.int _,H,jG,bD,q⟩
end
section
variable{X:Cx}{pos:Pos}
noncomputable def zB2(c:TT)(tb:TS):TS:=λD σ H=>∃W:Nat->St->Hp->Prop,(∃m,W m σ H)/\∀m σ H,W m σ H ->
 c σ H λb H1=>if b=true then ∃N:St->Hp->Prop,(∀σ' H',N σ' H'->∃m',m'<m/\W m' σ' H')/\tb { D with nx:=N,ct:=N,bk:=D.nx } σ H1 else D.nx σ H1
theorem q8Y{c:vW}{body:pz}{tc:TT}{tb:TS}(hp:jv)(hc:PT X c tc)(hb:PSs X body tb):PS X Rz (zB2 tc tb):=by
 intro pins s σ H D I h;obtain⟨W,⟨m0,w0⟩,turn⟩:=h;refine wpAny_While (codeAny_whileLoop (λn s'=>∃σ' H',Inv X pins σ' H' s'/\W n σ' H') ?_ m0 ⟨σ,H,I,w0⟩);rintro n s1 ⟨σ1,H1,I1,w1⟩;refine uX hp (thn (hc pins s1 σ1 H1 _ I1 (turn n σ1 H1 w1)) λb s2 Z_=>?_);obtain⟨H2,I2,q2⟩:=Z_;cases b with
 | true=>
  obtain⟨N,hN,q2⟩:=q2;rw[lg];refine uX hp (thn (hb pins s2 σ1 H2 _ I2 q2) λf s3 q3=>?_);cases f with
  | next=>
   obtain⟨σ3,H3,I3,n3⟩:=q3;obtain⟨m',hm,w3⟩:=hN σ3 H3 n3;exact QJ
  | cont=>
   obtain⟨σ3,H3,I3,n3⟩:=q3;obtain⟨m',hm,w3⟩:=hN σ3 H3 n3;exact QJ
  | brk=>exact q3
  | ret v=>exact q3
 | false=>
  rw[vJ xA];exact tH ⟨σ1,H2,I2,q2⟩
end
structure It where
 go:Nat->Hp->Prop
 yld:Nat->Hp->V->Hp->Prop
 stop:Nat->Hp->Prop
def Wm(X:Cx)(pins:aD)(H:Hp)(b:vF):Prop :=
 H b=none/\b≠X.env.locals/\b∉X.fs/\jN/\(∀x c,X.env.cells.lookup x=some c->c≠b)/\∀p∈X.pn++pins,p.1≠b
theorem Inv.fpOk{X:Cx}{pins:aD}{σ:St}{H H':Hp}{s:vC}{b:vF}(I:au)(hb:s.heap.objs.size<=b)(hn:H' b=none):Wm X pins H' b:=by
 refine⟨hn,wL (yA I.lt hb),I.nofs hb,.inr (yI I.sz hb),λx c e z=>?_,λp hp z=>?_⟩
 ·obtain⟨v,q⟩:=I.cell x c e
  exact vP (yA q.lt (by rw[z];exact hb)) Jn
 ·exact vP (yA (zN (I.pin p hp).1) (by rw[z];exact hb)) Jn
structure Turn (P:vU) (w:vY) (K:zC) (tg:vW) (J:It) (fp:List vF) (it:vF) (tn:Nat->vk->Prop):Prop where
 mem:it∈fp
 obj:∀i h,tn i h->∀b∈fp,∃o,h.get? b=some o/\∀v,o.data≠.cell v
 keep:∀i h h',tn i h->(∀b∈fp,∀o,h.get? b=some o->h'.get? b=some o)->tn i h'
 item:∀(X:Cx),X.prog=P->X.w=w->X.K=K->X.calm=true->∀(i:Nat)(pins:List (vF×Obj))(s:vC)(σ:St)(H:Hp)(E:vB->vC->Prop),Inv X pins σ H s->(∀b∈fp,Wm X pins H b)->tn i s.heap->J.go i H ->
  vQ (model P w) X.A (ub (.ref it)) (λr s1=>∃u,r=some u /\
   vQ (model P w) X.A (tI tg (.ref it) u) (λ_ s2=>∃x H',Inv X pins σ H' s2/\RelV x u/\J.yld i H x H'/\tn (i+1) s2.heap/\∀b∈fp,H' b=none) E s1) E s
 done:∀(X:Cx),X.prog=P->X.w=w->X.K=K->X.calm=true->∀(i:Nat)(pins:List (vF×Obj))(s:vC)(σ:St)(H:Hp)(E:vB->vC->Prop),Inv X pins σ H s->(∀b∈fp,Wm X pins H b)->tn i s.heap->J.stop i H ->
  vQ (model P w) X.A (ub (.ref it)) (λr s1=>r=none/\Inv X pins σ H s1) E s
 self:∀(A:vg)(i:Nat)(s:vC)(Q:vB->vC->Prop)(E:vB->vC->Prop),tn i s.heap->Q (.ref it) s->vQ (model P w) A (rH (.ref it)) Q E s
abbrev TI:=St->Hp->Ej->Prop
def PIE(X:Cx)(pins:aD)(σ:St)(tg:vW)(R:Ej)(itv:vB)(s2:vC):Prop :=
 ∃(it:vF) (fp:cX) (tn:Nat->vk->Prop) (J:It) (H':Hp),itv=.ref it/\Inv X pins σ H' s2/\Turn X.prog X.w X.K tg J fp it tn/\tn 0 s2.heap/\(∀b∈fp,Wm X pins H' b)/\R J H'
def PI(X:Cx)(tg iter:vW)(wi:TI):Prop :=
 ∀(pins:aD)(s:vC)(σ:St)(H:Hp)(R:Ej),Inv X pins σ H s->wi σ H R ->
  vQ aq X.A (eval iter X.env) (λv s1=>vQ aq X.A (rH v) TW X.xe s1) X.xe s
theorem q8G{M:Model}{A:vg}{E:aQ}{s:vC}{tg:vW}{it:vF}{u:vB}{o:Obj}{n:String}{vs:dI}{Q:ro}(ho:s.heap.get? it=some o)(hc:o.cls=.type n)(hd:o.data=.fields vs)(hn:["enumerate", "zip", "dict_itemiterator", "dict_reverseitemiterator", "odict_iterator", "itertools.zip_longest", "itertools.pairwise"].contains n=false)(hQ:Q () s):vQ M A (tI tg jj u) Q E s:=by
 unfold tI;cases tg <;> first
  | exact vG hQ
  | (cases u <;> first
    | exact vG hQ
    | (refine vA (wpAny_load ho ?_)
       rw[hc,hd];show vQ M A (if (["enumerate", "zip", "dict_itemiterator", "dict_reverseitemiterator", "odict_iterator", "itertools.zip_longest", "itertools.pairwise"].contains n&&vs[0]?==some (uf _))=true then _ else _) Q E s;rw[vJ (by intro h;rw[hn,w8]at h;cases h)];exact vG hQ))
noncomputable def Itl(K:zC)(a:vF):It :=
 ⟨λi H=>∃xs x,SqL K H a xs/\xs[i]?=some x,λi H x H'=>H'=H/\∀xs,SqL K H a xs->xs[i]?=some x,λi H=>∃xs,SqL K H a xs/\xs.length<=i⟩
noncomputable def Itt(K:zC)(a:vF):It :=
 ⟨λi H=>∃xs x,SqT K H a xs/\xs[i]?=some x,λi H x H'=>H'=H/\∀xs,SqT K H a xs->xs[i]?=some x,λi H=>∃xs,SqT K H a xs/\xs.length<=i⟩
noncomputable def Itr(lo:Int)(n:Nat):It:=⟨λi _=>i<n,λi H x H'=>H'=H/\x=.int Dn,λi _=>n<=i⟩
theorem qeB{P:vU}{w:vY}{K:zC}{tg:vW}(a it:vF):Turn P w K tg adq [it] it (λi h=>h.IsListIter it a i) where
 mem:=by simp
 obj:=λi h st b hb=>by
  have e:b=it:=by simpa using hb
  subst e;obtain⟨o,e,c,d⟩:=st;exact⟨o,e,λv z=>by rw[d]at z;cases z⟩
 keep:=λi h h' st k=>st.at λo e=>k it (by simp) o e
 item:=by
  intro X hP hw hK hc i pins s σ H E I hf st hg;subst hP hw hK;obtain⟨xs,x,hq,hx⟩:=hg;obtain⟨its,rv,p,hz⟩:=I.list hq;obtain⟨u,hu,ru⟩:=rv.get hx;obtain⟨f0,f1,f2,f3,f4,f5⟩:=hf it (by simp);refine wpAny_pyNext_list_item st p.isList (x:=u) ⇑hu λh' st' sb=>?_;have I1:Inv X pins σ H { s with heap:=h' }:=I.turned (t':=s.toks) oY f0 f1 f3 f4 f5;obtain⟨o,e,c,d⟩:=id st';exact⟨u,rfl,q8G (s:={ s with heap:=h' }) e c d (by decide) ⟨x,H,I1,ru,⟨rfl,λys hy=>by rw[I.list_inj hy hq];exact hx⟩,st',A9⟩⟩
 done:=by
  intro X hP hw hK hc i pins s σ H E I hf st hg;subst hP hw hK;obtain⟨xs,hq,hx⟩:=hg;obtain⟨its,rv,p,hz⟩:=I.list hq;obtain⟨f0,f1,f2,f3,f4,f5⟩:=hf it (by simp);have hl:=rv.length;exact wpAny_pyNext_list_end jV st p.isList (by simp;omega) λh' eb=>cF
 self:=λ_ _ _ _ _ st h=>wpAny_pyIter_listiter st h
theorem qco{P:vU}{w:vY}{K:zC}{tg:vW}(a it:vF):Turn P w K tg adp [it] it (λi h=>h.IsTupleIter it a i) where
 mem:=by simp
 obj:=λi h st b hb=>by
  have e:b=it:=by simpa using hb
  subst e;obtain⟨o,e,c,d⟩:=st;exact⟨o,e,λv z=>by rw[d]at z;cases z⟩
 keep:=λi h h' st k=>st.at λo e=>k it (by simp) o e
 item:=by
  intro X hP hw hK hc i pins s σ H E I hf st hg;subst hP hw hK;obtain⟨xs,x,hq,hx⟩:=hg;obtain⟨its,rv,p,hz⟩:=I.tuple hq;obtain⟨u,hu,ru⟩:=rv.get hx;obtain⟨f0,f1,f2,f3,f4,f5⟩:=hf it (by simp);refine wpAny_pyNext_tuple_item st (show s.heap.IsTuple a its.toArray from p) (x:=u) ⇑hu λh' st' sb=>?_;have I1:Inv X pins σ H { s with heap:=h' }:=I.turned (t':=s.toks) oY f0 f1 f3 f4 f5;obtain⟨o,e,c,d⟩:=id st';exact⟨u,rfl,q8G (s:={ s with heap:=h' }) e c d (by decide) ⟨x,H,I1,ru,⟨rfl,λys hy=>by rw[I.tuple_inj hy hq];exact hx⟩,st',A9⟩⟩
 done:=by
  intro X hP hw hK hc i pins s σ H E I hf st hg;subst hP hw hK;obtain⟨xs,hq,hx⟩:=hg;obtain⟨its,rv,p,hz⟩:=I.tuple hq;obtain⟨f0,f1,f2,f3,f4,f5⟩:=hf it (by simp);have hl:=rv.length;exact wpAny_pyNext_tuple_end jV st (show s.heap.IsTuple a its.toArray from p) (by simp;omega) λh' eb=>cF
 self:=λ_ _ _ _ _ st h=>wpAny_pyIter_tupleiter st h
theorem qcs{P:vU}{w:vY}{K:zC}{tg:vW}(it:vF)(lo:Int)(n:Nat):Turn P w K tg (Itr lo n) [it] it (λi h=>IsRangeIter h it (lo+(i:Nat)*1) (cR-(i:Nat)) 1) where
 mem:=by simp
 obj:=λi h st b hb=>by
  have e:b=it:=by simpa using hb
  subst e;exact⟨_,st,λv z=>by
   have z':Data.fields _=Data.cell v:=z;cases z'⟩
 keep:=λi h h' st k=>k it (by simp) _ st
 item:=by
  intro X hP hw hK hc i pins s σ H E I hf st hg;subst hP hw hK;obtain⟨f0,f1,f2,f3,f4,f5⟩:=hf it (by simp);have W:=Walks.range (prog:=X.prog) (w:=X.w) jV it lo 1 n;refine W.item i s _ _ hg st λv h' tk hv st' kk=>?_;obtain⟨t,rfl⟩:=hv;have I1:Inv X pins σ H { s with heap:=h',toks:=tk }:=I.turned (λb o hb e=>kk b o (by simpa using hb) e) f0 f1 f3 f4 f5;refine⟨_,rfl,q8G (s:={ s with heap:=h',toks:=tk }) (n := "range_iterator") st' rfl rfl (by decide) ⟨.int Dn,H,I1,⟨t,?_⟩,dg,st',A9⟩⟩;rw[Int.mul_one]
 done:=by
  intro X hP hw hK hc i pins s σ H E I hf st hg;subst hP hw hK;obtain⟨f0,f1,f2,f3,f4,f5⟩:=hf it (by simp);exact wpAny_pyNext_range_end jV st (by have:n<=i:=hg;omega) λh' eb=>cF
 self:=λ_ _ _ _ _ st h=>wpAny_pyIter_rangeiter st h
section
variable{X:Cx}{tg:vW}
noncomputable def zCa(K:zC)(tl:TE):TI:=λσ H R=>tl σ H λx H1=>∃a,x=.ref a/\(∃xs,SqL K H1 a xs)/\R adq H1
noncomputable def iTup(K:zC)(tl:TE):TI:=λσ H R=>tl σ H λx H1=>∃a,x=.ref a/\(∃xs,SqT K H1 a xs)/\R adp H1
theorem q26{l:vW}{tl:TE}(hl:PE X l tl):PI X tg l (zCa X.K tl):=by
 intro pins s σ H R I h;refine thn DW λv s1 Z_=>?_;obtain⟨x,H1,I1,r1,q1⟩:=Z_;obtain⟨a,e,⟨xs,hq⟩,q⟩:=q1;subst e;cases r1;obtain⟨its,rv,p,hz⟩:=I1.list hq;refine u5 p.isList ?_;refine⟨s1.heap.objs.size,IK,_,_,H1,rfl,I1.kept (t':=s1.toks) λb o e=>zE _ e,qeB a _,oX,kP,q⟩;have e:b=s1.heap.objs.size:=by simpa using hb
 subst e;exact I1.fpOk bX pI
theorem qjm{l:vW}{tl:TE}(hl:PE X l tl):PI X tg l (iTup X.K tl):=by
 intro pins s σ H R I h;refine thn DW λv s1 Z_=>?_;obtain⟨x,H1,I1,r1,q1⟩:=Z_;obtain⟨a,e,⟨xs,hq⟩,q⟩:=q1;subst e;cases r1;obtain⟨its,rv,p,hz⟩:=I1.tuple hq;refine wpAny_pyIter_tuple (show s1.heap.IsTuple a its.toArray from p) ?_;refine⟨s1.heap.objs.size,IK,_,_,H1,rfl,I1.kept (t':=s1.toks) λb o e=>zE _ e,qco a _,oX,kP,q⟩;have e:b=s1.heap.objs.size:=by simpa using hb
 subst e;exact I1.fpOk bX pI
theorem qg4{pins:aD}{σ:St}{H:Hp}{s:vC}{R:Ej}{E:aQ}{lo hi:Int}{t u v:Tok}{tk:Nat}(I:au)(h1:-(2^62)<=lo)(h2:lo<2^62)(h3:-(2^62)<=hi)(h4:hi<2^62)(q:R (Itr lo (hi-lo).toNat) H):vQ aq X.A (rH aL) TW E { s with heap:=s.heap.push { cls:=.type "range", data:=.fields #[Je,Jf,L7] },toks:=tk }:=by
 refine wpAny_pyIter_range (IsRange.new ..) (small_one h1 h2 h3 h4) ?_;have I1:Inv X pins σ H { s with heap:=s.heap.push { cls:=.type "range", data:=.fields #[Je,Jf,L7] },toks:=tk }:=I.kept λb o e=>zE _ e;refine⟨(s.heap.push { cls:=.type "range", data:=.fields #[Je,Jf,L7] }).objs.size,[(s.heap.push { cls:=.type "range", data:=.fields #[Je,Jf,L7] }).objs.size],_,_,H,rfl,
  I1.kept (t':=tk) λb o e=>zE _ e,qcs _ lo (hi-lo).toNat,?_,λb hb=>?_,q⟩
 ·have e1:lo+CL*1=lo:=by simp
  have e2:OS-CL=Builtin.Range.rangeSize lo hi 1:=by rw[rangeSize_one];split <;> omega
  show IsRangeIter _ _ (lo+CL*1) (OS-CL) 1;rw[e1,e2];exact zU _ rfl
 ·have e:b=(s.heap.push { cls:=.type "range", data:=.fields #[Je,Jf,L7] }).objs.size:=by simpa using hb
  subst e;exact I1.fpOk bX pI
noncomputable def iRng1(ta:TA):TI:=λσ H R=>ta σ H λvs H1=>∃j:Int,vs=[.int j]/\-(2^62)<=j/\j<2^62/\R (Itr 0 j.toNat) H1
theorem q7W{a:vW}{ta:TA}{p pos:Pos}(hg:Gl X "range")(hm:aa3)(ha:PA X [a] ta)(hs:CQ:=by rfl):PI X tg HS (iRng1 ta):=by
 intro pins s σ H R I h;refine Call_ (q17 I hg hm boot_range rf);obtain⟨vs,H1,I1,r1,q1⟩:=Z_;obtain⟨j,e,q1,q2,q⟩:=q1;subst e;cases r1 with
 | cons r rr=>
  cases rr;obtain⟨t,rfl⟩:=r;exact call_range_1 (qg4 I1 ∅ ∅ q1 q2 ⇑q)
noncomputable def tFor(wi:TI)(g:TG)(tb:TS):TS:=λD σ H=>wi σ H λJ H1=>∃W:Nat->Nat->St->Hp->Prop,(∃m,W 0 m σ H1)/\∀i m σ H,W i m σ H ->
 (J.stop i H/\D.nx σ H)\/(J.go i H/\∃N:St->Hp->Prop,(∀σ' H',N σ' H'->∃m',m'<m/\W (i+1) m' σ' H')/\∀x H',J.yld i H x H'->g x σ H' λσ2 H2=>tb { D with nx:=N,ct:=N,bk:=D.nx } σ2 H2)
noncomputable def zAY(fp:cX)(h:vk):List Av:=fp.filterMap λb=>(h.get? b).map λo=>(b,o)
theorem q2Q{fp:cX}{h:vk}{b:vF}{o:Obj}(hb:b∈fp)(e:h.get? b=some o):(b,o)∈zAY fp h:=Z3.mpr ⟨b,hb,by rw[e];rfl⟩
theorem qd0{fp:cX}{h:vk}{p:Av}(hp:p∈zAY fp h):p.1∈fp/\h.get? p.1=some p.2:=by
 obtain⟨b,hb,e⟩:=Z3.mp hp;cases q:h.get? b with
 | none=>rw[q]at e;cases e
 | some o=>
  rw[q]at e;have e':(b,o)=p:=zr e;subst e';exact⟨hb,q⟩
theorem Inv.pinned{pins:aD}{σ:St}{H:Hp}{s:vC}{fp:cX}(I:au)(hf:∀b∈fp,Wm X pins H b)(ho:∀b∈fp,∃o,s.heap.get? b=some o/\∀v,o.data≠.cell v):Inv X (pins++zAY fp s.heap) σ H s :=
 I.pins_of λp hp=>(zK.mp hp).elim (λz=>I.pin p (zS _ z)) λz=>by
  obtain⟨hb,e⟩:=qd0 z;obtain⟨f0,f1,f2,_⟩:=hf p.1 hb;obtain⟨o,e',d⟩:=ho p.1 hb;rw[e]at e';cases e';exact⟨e,f0,f1,f2,d⟩
theorem Inv.unpinned{pins pl:aD}{σ:St}{H:Hp}{s:vC}(I:Inv X (pins++pl) σ H s):Inv X pins σ H s:=I.pins_of λp hp=>I.pin p (zS _ (zV _ hp))
theorem q2y{iter:vW}{body:pz}{wi:TI}{g:TG}{tb:TS}{pos:Pos}(hp:jv)(hc:cV)(hi:On)(hg:PG X tg g)(hb:PSs X body tb)(hs:∀x,vz iter X.env x=pure x:=by intro _;rfl):PS X Ox (tFor wi g tb):=by
 intro pins s σ H D I h;refine wpAny_For (thn DX λv s1 h1=>thn h1 λitv s2 h2=>?_) hs;obtain⟨it,fp,tn,J,H2,e,I2,T,st2,f2,W,⟨m0,w0⟩,turn⟩:=h2;subst e;have stat:∀{H':Hp},(∀b∈fp,H' b=none)->∀b∈fp,Wm X pins H' b:=λhn b hb=>⟨hn b hb,(f2 b hb).2⟩;refine codeAny_forLoop_any (λn s'=>∃i σ' H',Inv X pins σ' H' s'/\tn i s'.heap/\(∀b∈fp,H' b=none)/\W i n σ' H') ?_ m0 ⟨0,σ,H2,I2,st2,λb hb=>(f2 b hb).1,w0⟩;rintro n s3 ⟨i,σ3,H3,I3,st3,fr3,w3⟩;rcases turn i n σ3 H3 w3 with⟨stop,qn⟩|⟨go,N,hN,step⟩
 ·refine uX hp (thn (T.done X rfl rfl rfl hc i pins s3 σ3 H3 X.xe I3 (stat fr3) st3 stop) λr s4 Z_=>?_)
  obtain⟨hr,I4⟩:=Z_;subst hr;exact tH ⟨σ3,H3,I4,qn⟩
 ·refine uX hp (thn (T.item X rfl rfl rfl hc i pins s3 σ3 H3 X.xe I3 (stat fr3) st3 go) λr s4 Z_=>?_)
  obtain⟨u,hr,h4⟩:=Z_;subst hr;refine uX hp (thn h4 λ_ s5 Z_=>?_);obtain⟨x,H5,I5,r5,y5,st5,fr5⟩:=Z_;have I5':=I5.pinned VD (T.obj _ _ st5);refine uX hp (thn (hg _ s5 σ3 H5 x u _ I5' r5 (step x H5 y5)) λ_ s6 Z_=>?_);obtain⟨σ6,H6,I6,q6⟩:=Z_;refine uX hp (thn (hb _ s6 σ6 H6 _ I6 q6) λf s7 q7=>?_);have again:∀{σ7:St}{H7:Hp},Inv X (pins++zAY fp s5.heap) σ7 H7 s7->N σ7 H7->∃m,m<n/\∃i σ' H',Inv X pins σ' H' s7/\tn i s7.heap/\(∀b∈fp,H' b=none)/\W i m σ' H':=λ{σ7 H7} I7 n7=>by
   obtain⟨m',hm,w7⟩:=hN σ7 H7 n7;refine⟨m',hm,i+1,σ7,H7,I7.unpinned,T.keep _ _ _ st5 λb hb o e=>(I7.pin (b,o) O4).1,kP,w7⟩;obtain⟨o,e,d⟩:=T.obj _ _ st5 b hb;exact(I7.pin (b,o) O4).2.1
  cases f with
  | next=>obtain⟨σ7,H7,I7,n7⟩:=q7;exact again I7 n7
  | cont=>obtain⟨σ7,H7,I7,n7⟩:=q7;exact again I7 n7
  | brk=>obtain⟨σ7,H7,I7,q7⟩:=q7;exact⟨σ7,H7,I7.unpinned,q7⟩
  | ret v=>obtain⟨x7,σ7,H7,I7,r7,q7⟩:=q7;exact⟨x7,σ7,H7,I7.unpinned,r7,q7⟩
end
abbrev R2:=V->V->Hp->VK->Prop
def OpR(X:Cx)(f:rm)(r:R2):Prop :=
 ∀(pins:aD)(s:vC)(σ:St)(H:Hp)(x y:V)(v u:vB)(Q:VK),Inv X pins σ H s->RelV x v->RelV y u->r x y H Q ->
  vQ aq X.A (f v u) cT X.xe s
def UnR(X:Cx)(f:vB->Sem vB)(r:Om):Prop :=
 ∀(pins:aD)(s:vC)(σ:St)(H:Hp)(x:V)(v:vB)(Q:VK),Inv X pins σ H s->RelV x v->r x H Q ->
  vQ aq X.A (f v) cT X.xe s
def WM(X:Cx)(f:vB)(r:HF):Prop :=
 ∀(pins:aD)(s:vC)(σ:St)(H:Hp)(xs:bg)(us:bu)(Q:VK),Inv X pins σ H s->Xf xs us->r xs H Q ->
  vQ aq X.A (call f us) cT X.xe s
def TruR(X:Cx)(r:V->Hp->j8->Prop):Prop :=
 ∀(pins:aD)(s:vC)(σ:St)(H:Hp)(x:V)(v:vB)(Q:j8),Inv X pins σ H s->RelV x v->r x H Q ->
  vQ aq X.A VC Ds X.xe s
noncomputable def tOp(r:R2)(ta tb:TE):TE:=λσ H Q=>ta σ H λx H1=>tb σ H1 λy H2=>r x y H2 Q
noncomputable def tUn(r:Om)(ta:TE):TE:=λσ H Q=>ta σ H λx H1=>r x H1 Q
noncomputable def rI(C:PR)(g:Nc):R2:=λx y H Q=>∃i j,x=.int i/\y=.int j/\C i j/\Q oP H
noncomputable def rI0(g:Nc):R2:=λx y H Q=>∃i j,x=.int i/\y=.int j/\Q oP H
def rU(g:Int->V):V->Hp->VK->Prop:=λx H Q=>∃i,x=.int i/\Q (g i) H
section
variable{X:Cx}{a b c:vW}{ta tb tc:TE}{pos:Pos}
theorem binT(ha:pH)(hb:Jc){pins:aD}{s:vC}{σ:St}{H:Hp}{R:V->V->Hp->Prop}(I:au)(h:ta σ H λx H1=>tb σ H1 λy H2=>R x y H2){Q:aQ}{f:rm}(hf:∀v u s2 x y H2,Inv X pins σ H2 s2->RelV x v->RelV y u->R x y H2->vQ aq X.A (f v u) Q X.xe s2):
  vQ aq X.A aeq (λv s₁=>vQ aq X.A aep (λu s₂=>vQ aq X.A (f v u) Q X.xe s₂) X.xe s₁) X.xe s:=by
 refine thn dj λv s1 Z_=>?_;obtain⟨x,H1,I1,r1,q1⟩:=Z_;refine thn NS λu s2 Z_=>?_;obtain⟨y,H2,I2,r2,q2⟩:=Z_;exact hf v u s2 x y H2 I2 r1 r2 q2
theorem qjZ{op:se}{r:R2}(ho:OpR X (uc op) r)(ha:pH)(hb:Jc):PE X U9 Ie:=by
 intro pins s σ H Q I h;exact wpAny_BinOp l9
theorem qk6{op:UnaryOp}{r:Om}(ho:UnR X (unaryOp op) r)(ha:pH):PE X (.UnaryOp op a pos) (tUn r ta):=by
 intro pins s σ H Q I h;exact UnaryOp_ (thn dj λv s1 ⟨x,H1,I1,r1,q1⟩=>ho pins s1 σ H1 x v Q I1 r1 q1)
theorem opI{f:rm}{C:PR}{g:AI}(rule:∀(i j:Int)(t u:Tok)(s:vC)(Q:aQ)(E:aQ),C i j->Q aca { s with toks:=s.toks+1 }->vQ aq X.A J5 Q E s):
  OpR X f (rI C λi j=>.int oP):=by
 intro pins s σ H x y v u Q I rx ry h;obtain⟨i,j,rfl,rfl,hc,q⟩:=h;obtain⟨t,rfl⟩:=rx;obtain⟨t',rfl⟩:=ry;exact rule i j t t' s _ _ hc RH
theorem opI0{f:rm}{g:AI}(rule:∀(i j:Int)(t u:Tok)(s:vC)(Q:aQ)(E:aQ),Q aca { s with toks:=s.toks+1 }->vQ aq X.A J5 Q E s):
  OpR X f (rI0 λi j=>.int oP):=by
 intro pins s σ H x y v u Q I rx ry h;obtain⟨i,j,rfl,rfl,q⟩:=h;obtain⟨t,rfl⟩:=rx;obtain⟨t',rfl⟩:=ry;exact rule i j t t' s _ _ RH
theorem opB0{f:rm}{g:B0}(rule:∀(i j:Int)(t u:Tok)(s:vC)(Q:aQ)(E:aQ),Q (.bool oP) s->vQ aq X.A J5 Q E s):
  OpR X f (rI0 λi j=>.bl oP):=by
 intro pins s σ H x y v u Q I rx ry h;obtain⟨i,j,rfl,rfl,q⟩:=h;obtain⟨t,rfl⟩:=rx;obtain⟨t',rfl⟩:=ry;exact rule i j t t' s _ _ ⟨.bl oP,H,I,rfl,q⟩
def CDiv(i j:Int):Prop:=0<j/\j<1073741824
def CPow(i j:Int):Prop:=0<=j/\j<=1000000/\i.natAbs<2^64
def CMul(i j:Int):Prop:=(-(2^64)<i/\i<2^64)\/(-(2^64)<j/\j<2^64)
theorem CMul.ok{i j:Int}(h:CMul i j):IntMulOk i j:=by
 rcases h with⟨h1,h2⟩|⟨h1,h2⟩
 ·exact .of_left R0
 ·exact .of_right R0
theorem qjC:OpR X K1 (rI0 λi j=>.int (i+j)):=opI0 λ_ _ _ _ _ _ _ q=>add_int q
theorem qiJ:OpR X (uc .Sub) (rI0 λi j=>.int (i-j)):=opI0 λ_ _ _ _ _ _ _ q=>sub_int q
theorem qjz:OpR X (uc .Mult) (rI CMul λi j=>.int (i*j)):=opI λ_ _ _ _ _ _ _ hc q=>mul_int q hc.ok
theorem qhd:OpR X (uc .FloorDiv) (rI CDiv λi j=>.int (i/j)):=opI λi j _ _ _ _ _ hc q=>by
 have h1:HM<j:=hc.1;have h2:j<1073741824:=hc.2;exact floordiv_int ∅ (by rw[Int.fdiv_eq_ediv_of_nonneg i ∅];exact q) (.inl (PyProof.noPylong_small ∅))
theorem qj1:OpR X (uc .Mod) (rI (λ_ j=>0<j) λi j=>.int (i%j)):=opI λi j _ _ _ _ _ hc q=>by
 have h1:HM<j:=hc;exact mod_int' ∅ (by rw[Int.fmod_eq_emod_of_nonneg i ∅];exact q)
theorem qjb:OpR X (uc .Pow) (rI CPow λi j=>.int (i^j.toNat)):=opI λ_ _ _ _ _ _ _ hc q=>pow_int_small hc.1 hc.2.1 hc.2.2 q
theorem unI{f:vB->Sem vB}{g:cG}(rule:∀(i:Int)(t:Tok)(s:vC)(Q:aQ)(E:aQ),Q (.int (g i) s.toks) { s with toks:=s.toks+1 }->vQ aq X.A (f AV) Q E s):
  UnR X f (rU λi=>.int (g i)):=by
 intro pins s σ H x v Q I rx h;obtain⟨i,rfl,q⟩:=h;obtain⟨t,rfl⟩:=rx;exact rule i t s _ _ ⟨.int (g i),H,jG,bD,q⟩
theorem qiV:UnR X (unaryOp .USub) (rU λi=>.int (-i)):=unI λ_ _ _ _ _ q=>neg_int q
end
section
variable{X:Cx}{a b c:vW}{ta tb tc:TE}{pos:Pos}
theorem qjI{pins:aD}{σ:St}{H:Hp}{s:vC}{Q:VK}{k k':Bool}(I:au)(q:Q (.bl k) H)(e:k=k'):EP X pins σ Q (.bool k') s:=by
 subst e;exact⟨.bl k,H,I,rfl,q⟩
theorem qgy:OpR X (uW .Lt) (rI0 λi j=>.bl (decide (i<j))):=opB0 λ_ _ _ _ _ _ _ q=>lt_int q
theorem qjW:OpR X (uW .LtE) (rI0 λi j=>.bl (decide (i<=j))):=opB0 λ_ _ _ _ _ _ _ q=>le_int q
theorem qgp:OpR X (uW .Gt) (rI0 λi j=>.bl (decide (j<i))):=opB0 λ_ _ _ _ _ _ _ q=>gt_int q
theorem qhO:OpR X (uW .IsNot) (λx y H Q=>y=.non/\Q (.bl (!decide (x=.non))) H):=by
 intro pins s σ H x y v u Q I rx ry h;obtain⟨rfl,q⟩:=h;cases ry;refine isnot_none_gen (qjI I q ?_);cases x <;> first
  | (cases rx;rfl)
  | (obtain⟨t,rfl⟩:=rx;rfl)
theorem OpR.or{f:rm}{r r':R2}(h:OpR X f r)(h':OpR X f r'):OpR X f Iu:=by
 intro pins s σ H x y v u Q I rx ry q;rcases q with q|q
 ·exact h pins s σ H x y v u Q I rx ry q
 ·exact h' pins s σ H x y v u Q I rx ry q
theorem WY(b:vW){op:rA}(h:op≠.In:=by decide)(h2:op≠.NotIn:=by decide):uM op b=false:=by
 have e1:aeb=false:=by cases op <;> first|rfl|exact vP rfl h
 have e2:aaS=false:=by cases op <;> first|rfl|exact vP rfl h2
 cases b <;> simp[uM,e1,e2]
theorem qhP{op:rA}{r:R2}(ho:Fo)(ha:pH)(hb:Jc)(hm:Dg):PE X kz Ie:=by
 intro pins s σ H Q I h;exact wpAny_Compare1 l9 hm
noncomputable def tTest(t:TE):TT:=λσ H Q=>t σ H λx H'=>∃k,x=.bl k/\Q k H'
theorem qhu{op:rA}{r:R2}(ho:Fo)(ha:pH)(hb:Jc)(hm:Dg):PT X kz (tTest Ie):=by
 intro pins s σ H Q I h;refine t6 (thn dj λv s1 ⟨x,H1,I1,r1,q1⟩=>thn NS λu s2 ⟨y,H2,I2,r2,q2⟩=>
  thn (ho pins s2 σ H2 x y v u _ I2 r1 r2 q2) λc s3 ⟨z,H3,I3,r3,k,e,q3⟩=>?_) hm
 subst e;cases r3;exact uY ⟨H3,I3,q3⟩
def TruV(K:zC)(x:V)(H:Hp)(k:Bool):Prop :=
 match x with
 | .non=>k=false
 | .bl b=>k=b
 | .int i=>k=(i != 0)
 | .str y=>y.length<=sizeLine/\k=(adS != 0)
 | .byt y=>y.size<=sizeLine/\k=((y.size:Int) != 0)
 | .ref p=>(∃xs,SqL K H p xs/\k=!xs.isEmpty)\/(∃xs,SqT K H p xs/\k=!xs.isEmpty)\/∃kvs,H p=some cj/\k=!kvs.isEmpty
 | _=>False
theorem qct{κ:Type}{kvs:iC}{vs:oU}(r:BZ):(!vs.isEmpty)=!kvs.isEmpty:=by
 cases r <;> rfl
theorem q6D{xs:bg}{its:bu}(r:Xf xs its):(!its.toArray.isEmpty)=!xs.isEmpty:=by
 cases r <;> simp
theorem zAD:ad4<2^63:=by rw[vh];decide
theorem qiH:TruR X (λx H Q=>∃k,TruV X.K x H k/\Q k H):=by
 intro pins s σ H x v Q I rx h;obtain⟨k,e,q⟩:=h;have hl:=zAD;have hs:sizeLine=16777216:=vh;cases x with
 | non=>
  cases rx;have e':k=false:=e;subst e';exact truthy_none MW
 | bl b=>
  cases rx;have e':k=b:=e;subst e';exact uY MW
 | int i=>
  obtain⟨t,rfl⟩:=rx;have e':k=(i != 0):=e;subst e';exact PySem.P.truthy_int MW
 | str y=>
  obtain⟨t,rfl⟩:=rx;obtain⟨hy,e'⟩:y.length<=sizeLine/\k=(adS != 0):=e;subst e';exact PySem.P.truthy_str ∅ ⟨H,jG,q⟩
 | byt y=>
  obtain⟨t,rfl⟩:=rx;obtain⟨hy,e'⟩:y.size<=sizeLine/\k=((y.size:Int) != 0):=e;subst e';exact PySem.W.truthy_bytes ∅ ⟨H,jG,q⟩
 | ref p=>
  cases rx;have e':(∃xs,SqL X.K H p xs/\k=!xs.isEmpty)\/(∃xs,SqT X.K H p xs/\k=!xs.isEmpty)\/∃kvs,H p=some cj/\k=!kvs.isEmpty:=e;rcases e' with⟨xs,hx,e'⟩|⟨xs,hx,e'⟩|⟨kvs,hx,e'⟩
  ·subst e'
   obtain⟨its,r,pl,hz⟩:=I.list hx;have hlen:=r.length;exact wpAny_truthy_list pl.isList (by simp only[zQ];omega) ⟨H,I.tok _,by rw[q6D r];exact q⟩
  ·subst e'
   obtain⟨its,r,pl,hz⟩:=I.tuple hx;have hlen:=r.length;exact truthy_tuple pl (by simp only[zQ];omega) ⟨H,I.tok _,by rw[q6D r];exact q⟩
  ·subst e'
   obtain⟨hz,hS,vs,r,m⟩:kvs.length<=sizeLine/\(p==uP)=false/\∃vs,KV kvs vs/\s.heap.DictOf oD p vs:=I.hok p _ hx;have hlen:kvs.length=vs.length:=Paired.length r;exact wpAny_truthy_dict hS m ∅ ⟨H,I.tok _,by rw[qct r];exact q⟩
 | _=>exact(show False from e).elim
theorem q4l(ha:pH)(he:∀whole,rG a X.env whole=(do let v <- whole;standAt a.pos;holding [v] VC)):
  PT X a (λσ H Q=>ta σ H λx H'=>∃k,TruV X.K x H' k/\Q k H'):=by
 intro pins s σ H Q I h;exact isTrue_plain (thn dj λv s1 ⟨x,H1,I1,r1,q1⟩=>qiH pins s1 σ H1 x v Q I1 r1 q1) (he _)
theorem vals1{x:V}{us:bu}(r:Xf [x] us):∃u,us=[u]/\RelV x u:=by
 cases r with
 | cons r1 r2=>cases r2;exact OV
theorem vals2{x y:V}{us:bu}(r:Xf [x,y] us):∃u w',us=[u,w']/\RelV x u/\RelV y w':=by
 cases r with
 | cons r1 r2=>
  cases r2 with
  | cons r3 r4=>cases r4;exact⟨_,_,rfl,r1,r3⟩
theorem q5S:WM X ach (λxs H Q=>∃i,xs=[iR]/\Q (.int (if i<0 then -i else i)) H):=by
 intro pins s σ H xs us Q I r h;obtain⟨i,rfl,q⟩:=h;obtain⟨u,rfl,t,rfl⟩:=vals1 r;exact call_abs_int λu tk=>⟨.int (if i<0 then -i else i),H,jG,bD,q⟩
end
structure ObjM (h:vk) (x dx C:vF) (mA:Str->Option vB):Prop where
 obj:h.get? x=some (Zd C dx)
 ns:h.Ns1 dx mA
 ne:dx≠x
theorem qes{h:vk}{dx:vF}{mA:bG}(n:h.Ns1 dx mA):∃od,h.get? dx=some od/\∀name,Zn name od=some (mA name):=by
 obtain⟨o,es,ep,ho,hd,hk,_,hm⟩:=n;refine⟨o,ho,λname=>?_⟩;have e:=hm name;unfold nsFind findBy at e;rw[<- Array.find?_toList]at e;unfold Zn;rw[hd]
 dsimp only
 split
 ·rename_i y q
  rw[q]at e;exact uB some e
 ·rename_i q
  rw[q]at e;have a:es.toList.any (·.refKey)=false:=by
   rw[List.any_eq_false];intro y hy;obtain⟨z,t,hkey⟩:=hk y (Array.mem_toList_iff.mp hy);simp[DictEntry.refKey,hkey]
  have a':¬es.toList.any (·.refKey)=true:=by rw[a];exact xA
  rw[vJ a'];exact uB some e
theorem ObjM.look{h:vk}{x dx C:vF}{mA:bG}(I:ObjM h x dx C mA):∃od,PySem.W.InstAt h x (Zd C dx) C (some od)/\∀name,Zn name od=some (mA name) :=
 let ⟨od,ho,hl⟩:=qes I.ns
 ⟨od,⟨I.obj,rfl,rfl,ho⟩,hl⟩
section
variable{prog:vU}{w:vY}{A:vg}{E:vB->vC->Prop}{s:vC}{K:zC}{x dx C f:vF}{mA:Str->Option vB}{name:Str}{v:vB}
end
theorem zBX.some_of{v:V}{o:BL}(r:zBX lO o):∃u,o=some u/\RelV v u:=by
 cases o with
 | none=>exact(show False from r).elim
 | some u=>exact⟨u,rfl,r⟩
section
variable{P:vU}{w:vY}{H H':Hp}{h h':vk}{a C dx:vF}{fs fs':List (Str×V)}
theorem qhn(hok:jH)(e:H a=some aeI):∃mA,ObjM h a dx C mA/\(∀f,zBX Po (mA f))/\PySem.Within mA (fs.map (·.1))/\fs.length<=1000/\H dx=some Ov:=by
 obtain⟨d,z,ne,ob,mA,n,r,q⟩:=(show Xg P w H h a aeI from hok a _ e);exact⟨mA,⟨ob,n,ne⟩,r,q,z,d⟩
end
structure Cls (K:zC) (C:vF):Prop where
 pg:YU K C Str.empty=true
 hd:PySem.W.hasDictIn K C=true
 po:PySem.W.plainOver K C=true
 sa:Yk K (.ref C) "__setattr__" = some (some (.builtin "object.__setattr__"))
theorem Cls.get{K:zC}{C:vF}(c:Cls K C)(f:Str):YU K C f=true:=c.pg
section
variable{X:Cx}{pins:List (vF×Obj)}{σ:St}{H:Hp}{s:vC}{a C dx:vF}{fs:List (Str×V)}{f:Str}{v:V}{A:vg}{E:vB->vC->Prop}
end
section
variable{X:Cx}{o e value:vW}{f:Str}{pos pos' tpos:Pos}{ta tv:TE}
end
section
variable{X:Cx}{pins:List (vF×Obj)}{σ:St}{H:Hp}{s:vC}{A:vg}{E:vB->vC->Prop}{Q:vB->vC->Prop}{c:vB}{b:Bool}
inductive TyOf (K:zC) (H:Hp):V->vB->Prop where
 | non:TyOf K H .non (.type "NoneType")
 | bl (x:Bool):TyOf K H (.bl x) (.type "bool")
 | int (i:Int):TyOf K H (.int i) (.type "int")
 | str (x:Str):TyOf K H (.str x) (.type "str")
 | flt (x:UInt64):TyOf K H (.flt x) (.type "float")
 | lst {a:vF} {xs:List V} (e:H a=some (.lst xs)):TyOf K H (.ref a) (.type "list")
 | frz {a:vF} {o:Obj} {xs:List V} (e:H a=some (.frz o (.lst xs))):TyOf K H (.ref a) (.type "list")
 | tup {a:vF} {xs:List V} (e:H a=some (.tup xs)):TyOf K H (.ref a) (.type "tuple")
 | dK {a:vF} {kvs:List (Key×V)} (e:H a=some (.dK kvs)):TyOf K H (.ref a) (.type "dict")
 | dT {a:vF} {kvs:List (List Key×V)} (e:H a=some (.dT kvs)):TyOf K H (.ref a) (.type "dict")
 | ins {a C dx:vF} {fs:List (Str×V)} (e:H a=some (.ins C dx fs)) (cl:Cls K C) (ha:Yk K (.ref C) "__class__" = some (some (.builtin "object.__class__")))
   (hn:PySem.W.specialIn K (.builtin "object.__class__") "__get__" = some (some (.builtin "getset_descriptor.__get__"))) (htk:PySem.W.takesIn K (.builtin "object.__class__")=some true)
   (hm:PySem.W.mroIn K C (.type "object")=some true):TyOf K H (.ref a) (.ref C)
theorem qdf{x:V}{u t:vB}(I:au)(rx:RelV x u)(ty:TyOf X.K H x t)(e:Zo X.K t c=some b)(h:∀tk,Q (.bool b) { s with toks:=tk }):
  vQ aq A (call QD [u,c]) Q E s:=by
 cases ty with
 | non=>cases (show u=Value.none from rx);exact yw PySem.W.kitx_none I.kIn True.intro e (λz=>nomatch z) h
 | bl y=>cases (show u=Value.bool y from rx);exact yw PySem.W.kitx_bool I.kIn True.intro e (λz=>nomatch z) h
 | int i=>obtain⟨t,q⟩:=(show ∃t,u=Value.int i t from rx);cases q;exact yw PySem.W.kitx_int I.kIn True.intro e (λz=>nomatch z) h
 | str y=>obtain⟨t,q⟩:=(show ∃t,u=Value.str y t from rx);cases q;exact yw PySem.W.kitx_str I.kIn True.intro e (λz=>nomatch z) h
 | flt y=>obtain⟨t,q⟩:=(show ∃t,u=Value.float y t from rx);cases q;exact yw PySem.W.kitx_float I.kIn True.intro e (λz=>nomatch z) h
 | @lst a xs ea=>
  cases (show u=Value.ref a from rx);obtain⟨_,_,n,_,h1⟩:=(show Xg X.prog X.w H s.heap a dk from I.hok a _ ea);exact yw YD I.kIn ⟨_,h1,rfl⟩ e (λz=>nomatch z) h
 | @frz a ob xs ea=>
  cases (show u=Value.ref a from rx);obtain⟨_,_,_,n,_,h1⟩:=(show Xg X.prog X.w H s.heap a (.frz ob dk)from I.hok a _ ea);exact yw YD I.kIn ⟨_,h1,rfl⟩ e (λz=>nomatch z) h
 | @tup a xs ea=>
  cases (show u=Value.ref a from rx);obtain⟨_,_,_,p⟩:=(show Xg X.prog X.w H s.heap a ph from I.hok a _ ea);obtain⟨o,h1,h2,_⟩:=p;exact yw PySem.W.kitx_tuple I.kIn ⟨o,h1,h2⟩ e (λz=>nomatch z) h
 | @dK a kvs ea=>
  cases (show u=Value.ref a from rx);obtain⟨_,_,vs,_,p⟩:=(show Xg X.prog X.w H s.heap a cj from I.hok a _ ea);obtain⟨o,es,ep,h1,h2,_⟩:=p;exact yw YE I.kIn ⟨o,h1,h2.1⟩ e (λz=>nomatch z) h
 | @dT a kvs ea=>
  cases (show u=Value.ref a from rx);obtain⟨_,_,xs,_,o,es,ep,h1,h2,_⟩:=(show Xg X.prog X.w H s.heap a BC from I.hok a _ ea);exact yw YE I.kIn ⟨o,h1,h2.1⟩ e (λz=>nomatch z) h
 | @ins a C dx fs ea cl ha hn htk hm=>
  cases (show u=Value.ref a from rx);obtain⟨mA,O,_⟩:=qhn I.hok ea;obtain⟨od,J,_⟩:=O.look;exact yw (PySem.W.kitx_own (cl.get _) cl.hd ha hn htk hm) I.kIn J e (λz=>nomatch z) h
end
structure Room (k:Nat) (A:vg):Prop where
 hd:A.handled=none
 dp:A.depth+3*k+5<recursionLimit
 un:A.units+16*k+200<ut
theorem Room.mono{j k:Nat}{A:vg}(r:Room k A)(h:j<=k):Room j A:=⟨r.hd,by have:=r.dp;omega,by have:=r.un;omega⟩
theorem Room.deeper{k:Nat}{A:vg}(r:Room (k+1) A)(env:Env):Room k (A.deeper env) :=
 ⟨r.hd,by have:=r.dp;show A.depth+1+3*k+5<_;omega,by have:=r.un;show A.units+3+16*k+200<_;omega⟩
theorem Room.in1{k:Nat}{A:vg}(r:Room (k+1) A):Room k A.in1 :=
 ⟨r.hd,by have:=r.dp;show A.depth+3*k+5<_;omega,by have:=r.un;show A.units+1+16*k+200<_;omega⟩
theorem Room.depth{k:Nat}{A:vg}(r:Room k A):A.depth<recursionLimit:=by have:=r.dp;omega
theorem Room.units{k:Nat}{A:vg}(r:Room k A):A.units+64<ut:=by have:=r.un;omega
noncomputable def Wh:TA:=λ_ H Q=>Q [] H
noncomputable def Xm(ta:TE)(tr:TA):TA:=λσ H Q=>ta σ H λx H1=>tr σ H1 λxs H2=>Q O8 H2
section
variable{X:Cx}{e:vW}{es:List vW}{te:TE}{t:TA}{pos:Pos}
theorem qq:PA X [] Wh:=λ_ _ _ _ H Q I h=>Calls.spliced_nil Is
theorem qj(ha:pG)(hr:PA X es t)(hs:aS:=by rfl):PA X kw (Xm te t):=by
 intro pos pins s σ H Q I h;rw[hs];show vQ _ _ (spliced (dW::vo pos iV)) _ _ s;refine Calls.spliced_cons (thn dj λu s1 Z_=>?_);obtain⟨x,H1,I1,r1,q1⟩:=Z_;exact thn Lc λus s2 ⟨xs,H2,I2,r2,q2⟩=>KM
noncomputable def tTup(t:TA):TE:=λσ H Q=>t σ H λxs H1=>xs.length<=sizeLine/\∀p,H1 p=none->Q aO (upd H1 p ph)
noncomputable def zDD(t:TA):TE:=λσ H Q=>t σ H λxs H1=>xs.length<=sizeLine/\∀p,H1 p=none->Q aO (upd H1 p dk)
theorem q9g{x1}(h:PA X es t):PE X aav (tTup t):=by
 intro pins s σ H Q I hq;refine wpAny_Tuple_spliced (thn NT λus s1 ⟨xs,H1,I1,r,z,q⟩=>⟨by rw[<- r.length];exact z,?_⟩);have hf:H1 s1.heap.objs.size=none:=I1.hok.fresh bX;refine⟨Ud,upd H1 s1.heap.objs.size ph,abu,rfl,q _ hf⟩;exact⟨z,us,r,GK⟩
theorem q2t(h:PA X es t):PE X aeN (zDD t):=by
 intro pins s σ H Q I hq;refine wpAny_List_spliced (thn NT λus s1 ⟨xs,H1,I1,r,z,q⟩=>⟨by rw[<- r.length];exact z,?_⟩);have hf:H1 s1.heap.objs.size=none:=I1.hok.fresh bX;refine⟨Ud,upd H1 s1.heap.objs.size dk,abu,rfl,q _ hf⟩;exact⟨z,us,0,r,jt⟩
end
abbrev Sp:=List V->Hp->VK->XK->Prop
abbrev CXT:=List Env->Hp->vC->XK->vB->vC->Prop
structure Env0 (P:vU) (w:vY) (K:zC) (mg:Str->Option vB) (base:vk) (A:vg) (outer:List Env) (s:vC) (H:Hp):Prop where
 frames:A.frames=some outer
 mod:Mod K mg base
 bs:∀b o,base.get? b=some o->s.heap.get? b=some o/\H b=none
 bsz:base.objs.size<=s.heap.objs.size
 funs:s.heap.FunFrames base outer
 frf:∀b∈frs outer,H b=none
 hok:HOk P w H s.heap
 bare:tV s.gens
def CE(outer:AU)(P:vU)(w:vY)(H:Hp)(s:vC)(Q:VK)(u:vB)(s':vC):Prop :=
 ∃v H',s'.os=s.os/\tV s'.gens/\Un (frs outer) [] H H' s.heap s'.heap/\HOk P w H' s'.heap/\RelV v u/\Q v H'
def CR(CX:CXT)(outer:AU)(P:vU)(w:vY)(H:Hp)(s:vC)(Q:VK)(E:XK)(r:sU)(s':vC):Prop :=
 match r with
 | .ok (.ret u)=>CE outer P w H s Q u s'
 | .ok _=>False
 | .error e=>CX outer H s E e s'
structure FnOk (P:vU) (w:vY) (K:zC) (mg:Str->Option vB) (base:vk) (CX:CXT) (k:Nat) (f:vF) (fd:vO) (ps:List Str) (sp:Sp):Prop where
 len:∀vs H Q E,sp vs H Q E->vs.length=ps.length
 run:∀(A:vg)(outer:List Env)(s:vC)(H:Hp)(args:Args)(us:List vB)(vs:List V)(Q:VK)(E:XK),Room k A->Env0 P w K mg base A outer s H->sf s fd args (ps.zip us)->Xf vs us->sp vs H Q E ->
  uj (model P w) A (.call (.ref f) args) (CR CX outer P w H s Q E) s
theorem Env0.in1{P:vU}{w:vY}{K:zC}{mg:bG}{base:vk}{A:vg}{outer:AU}{s:vC}{H:Hp}(e:MN):
  Env0 P w K mg base A.in1 outer s H:=⟨e.frames,e.mod,e.bs,e.bsz,e.funs,e.frf,e.hok,e.bare⟩
section
variable{X:Cx}{pins:List (vF×Obj)}{σ:St}{H:Hp}{s s':vC}
theorem Inv.env0(I:au):Env0 X.prog X.w X.K X.mg X.base X.A X.stack s H :=
 ⟨I.ok.frames,I.ok.mod,I.bs,yI I.ok.bsz I.sz,I.stack,I.stkFree,I.hok,I.bare⟩
theorem Inv.after{Q:VK}{u:vB}(I:au)(h:CE X.stack X.prog X.w H s Q u s'):EP X pins σ Q u s':=by
 obtain⟨v,H',os,bare,un,hok,r,q⟩:=h;obtain⟨hh,g,d,t,os'⟩:=s';obtain rfl:os'=s.os:=os;exact⟨v,H',I.call (h':=hh) (g':=g) (d':=d) (t':=t) (ch:=[]) un hok bare (λb z=>vP z (by simp)),r,q⟩
end
noncomputable def zAa(sp:Sp)(dvs:bg)(E:XK)(t:TA):TE:=λσ H Q=>t σ H λvs H1=>sp Qb H1 Q E
def Binds(K:zC)(fd:vO)(ps:cg)(ds:bu):Prop :=
 ∀(s:vC)(us:bu),K.In s.heap->(us++ds).length=ps.length->sf s fd Da (ps.zip (us++ds))
theorem Binds.all{K:zC}{fd:vO}{ps:cg}(h:∀us:List vB,us.length=ps.length->bindArgs fd Da=pure FF):Binds K fd ps []:=λs us _ hl=>by
 rw[zx]at hl ⊢;exact .of_eq (h us hl)
def zBD(CX:CXT)(X:Cx)(E:XK):Prop:=∀(pins:aD)(σ:St)(H:Hp)(s:vC)(e:vB)(s':vC),Inv X pins σ H s->CX X.stack H s E e s'->X.xe e s'
section
variable{X:Cx}{CX:CXT}{k:Nat}{f C:vF}{fd:vO}{ps:List Str}{sp:Sp}{dvs:List V}{ds:List vB}{E:XK}{x m:Str}{p pos apos:Pos}{e o:vW}{es:List vW}{ta:TE}{t:TA}
theorem qjh{pins:aD}{σ:St}{H:Hp}{s:vC}{Q:VK}{us:bu}{vs:bg}(F:CY)(hr:adj)(hb:ab3)(hd:Xf dvs ds)(hx:acs)(I:au)(r:Xf vs us)(h:sp Qb H Q E):vQ aq X.A (call iq us) cT X.xe s:=by
 have r2:Xf Qb (us++ds):=r.append hd;have hl:(us++ds).length=ps.length:=by rw[<- r2.length];exact F.len _ _ _ _ h
 refine wpAny_call (uo (F.run X.A X.stack s H Da (us++ds) Qb Q E hr I.env0 (hb s us I.kIn hl) r2 h) λr s' hq=>?_);cases r with
 | error e=>exact hx pins σ H s e s' I hq
 | ok fl=>
  cases fl with
  | ret u=>exact I.after hq
  | next=>exact False.elim hq
  | brk=>exact False.elim hq
  | cont=>exact False.elim hq
theorem q27(F:CY)(hr:adj)(hg:Bz)(hm:X.mg x=some iq)(hk:xl X.K iq=true)(hb:ab3)(hd:Xf dvs ds)(hx:acs)(ha:Sg)(hdb:aM:=by decide)(he:aS:=by rfl)(hpl:(vo pos iV).any (·.1)=false:=by rfl):
  PE X cY (zAa sp dvs E t):=by
 intro pins s σ H Q I h;refine uJ (qbE I hg hm ?_ hdb);refine PySem.W.callWith_K (h₀:=X.base) I.ok.mod.kin hk (thn ii λus s1 ⟨vs,H1,I1,r,q⟩=>⟨I1.kIn,?_⟩) he hpl;exact qjh F hr hb hd hx I1 r q
end
def PK(X:Cx)(kws:List uN)(t:TA):Prop :=
 ∀(pos:Pos)(pins:aD)(s:vC)(σ:St)(H:Hp)(Q:nV),Inv X pins σ H s->t σ H Q->vQ aq X.A (evalAll ((uO pos ad1).map (·.2))) ab7 X.xe s
section
variable{X:Cx}{CX:CXT}{k:Nat}{f C:vF}{fd:vO}{ps ks:List Str}{sp:Sp}{E:XK}{x m:Str}{p pos apos kpos:Pos}{e o:vW}{es:List vW}{kws:List uN}{te ta:TE}{t tk:TA}{nm:Option Str}
theorem qiA:PK X [] Wh:=λ_ _ _ _ H Q I h=>wpAny_evalAll_nil Is
theorem qhQ(ha:pG)(hr:PK X kws t):PK X (⟨nm,e,kpos⟩::kws) (Xm te t):=by
 intro pos pins s σ H Q I h;show vQ _ _ (evalAll ((do let v <- eval e X.env;standAt pos;pure v)::(uO pos ad1).map (·.2))) _ _ s;refine wpAny_evalAll_cons (vA (thn dj λu s1 ⟨x,H1,I1,r1,q1⟩=>vA (sS gr)));exact thn Lc λus s2 ⟨xs,H2,I2,r2,q2⟩=>KM
variable{g:List vB->List vB->List vB}{gV:List V->List V->List V}
end
structure FnScope (N P:List Str) (sc:u4):Prop where
 kind:sc.kind=.function
 co:sc.isCoroutine=false
 gen:sc.isGenerator=false
 nd:N.Nodup
 pre:N.take P.length=P
 par:∀x∈P,sc.names.lookup x=some .local\/sc.names.lookup x=some .cell
 nofree:∀y∈sc.names,y.2≠.free
theorem q7Q{kindOf:HA}{x:Str}:∀{binds:List Qu}{m:bG},(∀v,(x,v)∉binds)->bindL kindOf binds m x=m x
 | [],_,_=>rfl
 | (n,v)::r,m,h=>by
  unfold bindL;rw[q7Q λw hw=>h w (zH _ hw)]
  split
  ·have:x≠n:=by rintro rfl;exact h v zF
   simp[this]
  ·rfl
theorem q7Y{kindOf:HA}{x:Str}:∀{binds:List Qu}{m:bG},(∀v,(x,v)∉binds)->bindC kindOf binds m x=m x
 | [],_,_=>rfl
 | (n,v)::r,m,h=>by
  unfold bindC;rw[q7Y λw hw=>h w (zH _ hw)]
  split
  ·rfl
  ·have:x≠n:=by rintro rfl;exact h v zF
   simp[this]
theorem q7M{kindOf:HA}{x:Str}{v:vB}:∀{P:cg}{vs:bu}{i:Nat}{m:bG},P.Nodup->P[i]?=some x->vs[i]?=some v->kindOf x=some .local ->
  bindL kindOf (P.zip vs) m x=some v
 | [],_,_,_,_,h,_,_=>by simp at h
 | _::_,[],_,_,_,_,h,_=>by simp at h
 | p::P,w::vs,0,m,nd,h1,h2,hk=>by
  simp at h1 h2;subst h1;subst h2;show bindL kindOf Ch m p=_;unfold bindL;rw[q7Q λv hv=>(yx.mp nd).1 (Ze hv).1,vH hk];simp
 | p::P,w::vs,i+1,m,nd,h1,h2,hk=>by
  show bindL kindOf Ch m x=_;unfold bindL;exact q7M (i:=i) (yx.mp nd).2 ⇑h1 ⇑h2 hk
theorem q7V{kindOf:HA}{x:Str}{v:vB}:∀{P:cg}{vs:bu}{i:Nat}{m:bG},P.Nodup->P[i]?=some x->vs[i]?=some v->kindOf x≠some .local ->
  bindC kindOf (P.zip vs) m x=some v
 | [],_,_,_,_,h,_,_=>by simp at h
 | _::_,[],_,_,_,_,h,_=>by simp at h
 | p::P,w::vs,0,m,nd,h1,h2,hk=>by
  simp at h1 h2;subst h1;subst h2;show bindC kindOf Ch m p=_;unfold bindC;rw[q7Y λv hv=>(yx.mp nd).1 (Ze hv).1,vJ hk];simp
 | p::P,w::vs,i+1,m,nd,h1,h2,hk=>by
  show bindC kindOf Ch m x=_;unfold bindC;exact q7V (i:=i) (yx.mp nd).2 ⇑h1 ⇑h2 hk
noncomputable def start(N:cg)(vs:bg):St:=vs.map some++zk (N.length-vs.length) none
noncomputable def zCA(CX:CXT)(P:vU)(w:vY)(K:zC)(mg:bG)(base:vk)(N:cg)(qual:Str)(scope:u4)(f:vF)(cd:vB)(A:vg)(outer:AU)(s:vC)(H:Hp)(E:XK):Cx where
 prog:=P
 w:=w
 K:=K
 mg:=mg
 base:=base
 A:=A.deeper nC
 N:=N
 s₀:=s
 H₀:=H
 env:=sF qual scope s.heap.objs.size f cd
 outer:=outer
 stack:=sF qual scope s.heap.objs.size f cd::outer
 ex:=[]
 calm:=true
 fn:=λ_=>true
 pn:=[]
 xe:=λe s'=>vQ Tp (A.deeper nC) (leaving nC e) (λ_ s''=>CX outer H s E e s'') (λe' s''=>CX outer H s E e' s'') s'
theorem q8Q{sc:u4}{n:Nat}{x:Str}(h:sc.names.lookup x=some .cell):∃c,(cellsFrom n sc.names []).lookup x=some c:=by
 have q:=ZV sc.names n [] (.inl h);exact yz.mp q
theorem qcU{CX:CXT}{P:vU}{w:vY}{K:zC}{mg:bG}{base:vk}{N ps:cg}{qual:Str}{scope:u4}{f:vF}{cd:vB}{A:vg}{outer:AU}{s s1:vC}{H:Hp}{E:XK}{us:bu}{vs:bg}(S:ab1)(hd:db)(e0:MN)(hl:vs.length=ps.length)(r:Xf vs us)(x:InCallC s s.heap.objs.size (bindL (sF qual scope s.heap.objs.size f cd).kindOf FF λ_=>none) (cellsFrom jo scope.names []) (bindC (sF qual scope s.heap.objs.size f cd).kindOf FF λ_=>none) s1):
  Inv (zCA CX P w K mg base N qual scope f cd A outer s H E) [] DQ H s1:=by
 have hpl:ps.length<=N.length:=by have:=uB wD S.pre;rw[zf]at this;omega
 obtain⟨h1,tk,rfl,hk⟩:=x.done;have noA:∀b:vF,b∉(zCA CX P w K mg base N qual scope f cd A outer s H E).ex:=λb z=>vP (show b∈Rk from z) (by simp);refine⟨⟨e0.mod,S.kind,rfl,rfl,bX,λy z c h1 h2=>?_,O0,λy c _ h=>?_,λ_=>hd,Around.frames_deeper e0.frames,.inr dg,aaF,e0.bs,e0.bsz,λb _ _=>noA b,aaF,e0.funs,e0.frf⟩,
  rfl,e0.bare,Un.kept hk,⟨_,x.toInCall.ns,λi y v h1 h2 h3=>?_⟩,λy c h=>⟨_,x.cell y c h⟩,e0.hok.fresh bX,λy c h=>?_,λp hp=>vP (show p∈Rl from hp) (by simp),e0.hok.kept hk,?_⟩
 ·exact name_of_addr x.apart (PySem.mem_of_lookup h1) (PySem.mem_of_lookup h2)
 ·have hy:scope.names.lookup y=some .cell\/scope.names.lookup y=some .free:=hy
  rcases hy with hy|hy
  ·exact q8Q hy
  ·exact vP rfl (S.nofree _ (PySem.mem_of_lookup hy))
 ·exact yh Gw
 ·have hi:i<vs.length:=by
   unfold start at h2
   by_cases hi:i<vs.length
   ·exact hi
   ·rw[zb ⇑hi]at h2
    rw[xB]at h2
    split at h2 <;> cases h2
  have ha:vs[i]?=some v:=by
   unfold start at h2;rw[ze ⇑hi,zP]at h2;cases e:vs[i]? with
   | none=>rw[e]at h2;cases h2
   | some a=>rw[e]at h2;cases h2;rfl
  obtain⟨u,hu,rv⟩:=r.get ha;have hp:ps[i]?=some y:=by
   rw[<- S.pre,wU ∅];exact h1
  have ndP:ps.Nodup:=by rw[<- S.pre];exact S.nd.sublist (ZK _ _)
  refine⟨u,rv,?_⟩;rcases S.par y (zg hp)with k|k
  ·exact .inl ⟨k,q7M ndP hp hu k⟩
  ·obtain⟨c,e⟩:=q8Q (n:=s.heap.objs.size+1) k
   refine .inr ⟨.inl k,c,e,?_⟩;have q:=x.cell y c e;rw[q7V ndP hp hu (by show scope.names.lookup y≠_;rw[k];decide)]at q;exact q
 ·exact e0.hok.fresh (yh Gw)
 ·unfold start
  show _=N.length;rw[zD,zB,yN];omega
theorem qjP{CX:CXT}{P:vU}{w:vY}{K:zC}{mg:bG}{base:vk}{k:Nat}{f:vF}{name qual:Str}{params:Arguments}{body:pz}{scope:u4}{dV kV doc pm cdv ct oc:vB}{an od:Jd}{osl:aau}{N ps:cg}{sp:Sp}(lk:K.lookup f=some ⟨oc,od,.func Au,osl⟩)(hcd:aby)(S:ab1)(len:∀vs H Q E,sp vs H Q E->vs.length=ps.length)(hbody:∀(A:vg)(outer:AU)(s:vC)(H:Hp)(vs:bg)(Q:VK)(E:XK),Room k (A.deeper (sF qual scope s.heap.objs.size f cdv))->sp vs H Q E ->
   ∃t,PSs jq body t/\t { nx:=λ_ H'=>Q .non H',rt:=Q } DQ H) :
  FnOk P w K mg base CX (k+1) f Au ps sp:=by
 refine⟨len,λA outer s H args us vs Q E hr e0 hb r hsp=>?_⟩;have hl:=len _ _ _ _ hsp;have KX:K.In s.heap:=e0.mod.kin.keeps λb o e=>(e0.bs b o e).1;have lim:s.heap.NoLimit:=e0.mod.nolimit.keeps λb o e=>(e0.bs b o e).1;have hkind:∀y∈ps.zip us,scope.names.lookup y.1=some .local\/(scope.names.lookup y.1=some .cell/\((cellsFrom jo scope.names []).lookup y.1).isSome=true):=λ⟨n,v⟩ hy=>by
  rcases S.par n (Ze hy).1 with q|q
  ·exact .inl q
  ·exact .inr ⟨q,ZV _ _ _ (.inl q)⟩
 refine codeAny_call_function hr.depth (KX _ _ lk) rfl S.co S.gen rfl (PySem.W.codeRec_of KX hcd) (hb _ _ _ _ ?_);refine wpAny_newFunctionEnv_cells S.kind hkind λenv he s1 x=>?_;subst he;refine⟨lim.keeps x.toInCall.keep,codeAny_func ?_⟩;obtain⟨t,ht,hq⟩:=hbody A outer s H vs Q E (hr.deeper _) hsp;have I:Inv jq [] DQ H s1:=qcU S hr.hd e0 hl r x;refine v9 (ht [] s1 DQ H _ I hq) (λfl s' hs=>?_) λe s' hs=>hs;have fin:∀{σ':St}{H':Hp}{v:V}{u:vB},Inv jq [] σ' H' s'->RelV v u->Q v H'->CE outer P w H s Q u s' :=
  λ{σ' H' v u} J rv q=>⟨v,H',J.os,J.bare,J.base,J.hok,rv,q⟩
 cases fl with
 | ret u=>
  obtain⟨v,σ',H',J,rv,q⟩:=hs;exact fin J rv q
 | next=>
  obtain⟨σ',H',J,q⟩:=hs;exact fin (v:=V.non) (u:=Value.none) J rfl q
 | brk=>
  obtain⟨_,_,_,q⟩:=hs;exact False.elim q
 | cont=>
  obtain⟨_,_,_,q⟩:=hs;exact False.elim q
section
variable{X:Cx}{x:Str}{p pos:Pos}{e:vW}{es:List vW}{t:TA}{id T:String}{r:List V->Hp->VK->Prop}
noncomputable def tCB(r:HF)(t:TA):TE:=λσ H Q=>t σ H λvs H1=>r vs H1 Q
theorem q2a(hc:WM X jW r)(hg:Bz)(hm:AQ)(hv:vn x=some jW)(ha:Sg)(hn:kQ:= by decide)(hdb:aM:=by decide)(he:aS:=by rfl)(hpl:(vo pos iV).any (·.1)=false:=by rfl):PE X cY acC:=by
 intro pins s σ H Q I h;refine uJ NJ;exact PyProof.Rows.callWith_builtin1 (thn ii λus s1 ⟨vs,H1,I1,r1,q1⟩=>hc pins s1 σ H1 vs us Q I1 r1 q1) he hpl
theorem q8d(hc:WM X BA r)(hg:Bz)(hm:AQ)(hv:vn x=some BA)(ha:Sg)(hn:kQ:= by decide)(hdb:aM:=by decide)(he:aS:=by rfl)(hpl:(vo pos iV).any (·.1)=false:=by rfl):PE X cY acC:=by
 intro pins s σ H Q I h;refine uJ NJ;exact PyProof.Rows.callWith_type1 (thn ii λus s1 ⟨vs,H1,I1,r1,q1⟩=>hc pins s1 σ H1 vs us Q I1 r1 q1) he hpl
end
end L2
namespace HT
open PySem PyProof.Rows
section
open PySem.SeqAt
open PySem.AutoSeq1 (wpAny_loadPart')
open PySem.MeetsSeq PySem.MeetsSeq2 PySem.MeetsSeq3
end
section
variable{prog:vU}{w:vY}{A:vg}{E:vB->vC->Prop}{s:vC}
theorem qhr{t b:vF}{vs ws:bu}{Q:aQ}(ht:IsTup s.heap t vs.toArray)(hb:IsTup s.heap b ws.toArray)(hv:vs≠[])(h1:ws=[]->Q ku s)(h2:ws≠[]->Q aL { s with heap:=s.heap.push { cls:=.type "tuple", data:=.seq (vs++ws).toArray } })(hsz:vs.length+ws.length<=sizeLine):vQ ap A (uc .Add ku DE) Q E s:=by
 obtain⟨⟨cls,dd,data,sl⟩,ho,hc,n,hd⟩:=id ht;obtain⟨⟨cls2,dd2,data2,sl2⟩,ho2,hc2,n2,hd2⟩:=id hb;simp only at hc hd hc2 hd2;subst hc hd hc2 hd2;have e:vs.toArray++ws.toArray=(vs++ws).toArray:=by simp
 by_cases hw:ws=[]
 ·exact concat_meets OY Np noFill_tuple_add seq_tuple_add PySem.F.slot_tuple_add PySem.F.entry_tuple_add Aa
   (tuple_addW1 t b vs.toArray ws.toArray n n2 dd dd2 sl sl2 ⇑hv (by simp[hw])) ⟨ho,ho2,h1 hw⟩
 ·refine concat_meets OY Np noFill_tuple_add seq_tuple_add PySem.F.slot_tuple_add PySem.F.entry_tuple_add Aa
   (tuple_addW2 t b vs.toArray ws.toArray n n2 dd dd2 sl sl2 ⇑hv ⇑hw (by rw[zQ,zQ];exact hsz)) ⟨ho,ho2,?_⟩
  rw[e];exact h2 hw
noncomputable def sIx(n d:Nat):Option Int->Nat
 | none=>d
 | some v=>if v<0 then (v+cR).toNat else min v.toNat n
theorem q5T(n d:Nat):sIx n d none=d:=rfl
theorem q7v(n d k:Nat):sIx n d (some Aw)=min k n:=by
 show (if Aw<0 then (Aw+cR).toNat else min (k:Int).toNat n)=min k n;rw[iW,yk]
theorem qiG(n d:Nat)(hd:d<=n)(o:fw):sIx n d o<=n:=by
 cases o with
 | none=>exact hd
 | some v=>
  show (if v<0 then (v+cR).toNat else min v.toNat n)<=n
  by_cases hv:v<0
  ·rw[vH hv];omega
  ·rw[vJ hv];exact YV _ _
theorem qaI(v:Int)(n d:Nat):(if v<0 then max (v+cR) 0 else min v cR)=((sIx n d lO:Nat):Int):=by
 show (if v<0 then max (v+cR) 0 else min v cR)=(((if v<0 then (v+cR).toNat else min v.toNat n):Nat):Int)
 by_cases hv:v<0
 ·simp only[vH hv];omega
 ·simp only[vJ hv];omega
theorem qci(lo hi:fw)(n:Nat):Builtin.Slice.sliceAdjust lo hi 1 cR=(pM,RE):=by
 have h1:¬(Bf<0):=∅
 unfold Builtin.Slice.sliceAdjust;simp only[h1,if_false];refine Prod.ext ?_ ?_
 ·cases lo with
  | none=>rfl
  | some v=>exact qaI v n 0
 ·cases hi with
  | none=>rfl
  | some v=>exact qaI v n n
theorem qcv(i j:Nat):Builtin.Slice.slicePlaces oa Cw 1=j-i:=by
 unfold Builtin.Slice.slicePlaces;have h1:Bf>0:=∅
 simp only[h1,if_true,Int.ediv_one]
 split <;> omega
theorem q6P{v:vB}{o:fw}{Q:Option Int->vC->Prop}(p:tj v o)(h:Q o s):vQ ap A (Builtin.Slice.slicePartIndex v) Q E s:=by
 cases p with
 | none=>exact slicePart_none h
 | int i t=>exact slicePart_int h
theorem q3t{sl:vF}{vl vu:vB}{lo hi:fw}{n:Nat}{Q:Int×Int×Nat->vC->Prop}(hs:rV)(pl:tj vl lo)(pu:tj vu hi)(h:Q (pM,1,sIx n n hi-sIx n 0 lo) s):vQ ap A (Builtin.Slice.sliceApplied HN (pure cR)) Q E s:=by
 obtain⟨os,hos,hcs,hds⟩:=id hs;unfold Builtin.Slice.sliceApplied Builtin.Slice.sliceFields;refine vA (vA (ue hos hds (x:=vl) rfl (vA (ue hos hds (x:=vu) rfl (vA (ue hos hds (x:=.none) rfl gr))))));refine vA (slicePart_none ?_);show vQ _ _ (if (Bf==0)=true then _ else _) _ _ s;rw[vJ (by decide)];refine vA (q6P pl (vA (q6P pu (vA gr))));show vQ _ _ (match Builtin.Slice.sliceAdjust lo hi 1 cR with|(lo,hi)=>pure (lo,Bf,Builtin.Slice.slicePlaces lo hi 1)) _ _ s;rw[qci lo hi n];show vQ _ _ (pure (pM,Bf,Builtin.Slice.slicePlaces pM RE 1)) _ _ s;rw[qcv];exact vG h
theorem qfX(xs:dI)(i k:Nat):((zo k).filterMap λ(m:Nat)=>xs[(oa+jp*1).toNat]?).toArray=((xs.toList.drop i).take k).toArray:=by
 have e:(λ(m:Nat)=>xs[(oa+jp*1).toNat]?)=λm=>xs[i+m]?:=by
  funext m
  have:(oa+jp*1).toNat=i+m:=∅
  rw[this]
 rw[e];have:=pick_run xs i k;rw[Z4]at this;have e2:((λx=>xs[x]?) ∘ λx=>i+x)=λm=>xs[i+m]?:=rfl;rw[e2]at this;rw[this]
theorem q5M{t sl:vF}{items:dI}{vl vu:vB}{lo hi:fw}{Q:aQ}(ht:aam)(hs:rV)(pl:tj vl lo)(pu:tj vu hi)(hw:¬(sIx items.size 0 lo=0/\sIx items.size items.size hi=items.size))(h:Q aL { s with heap:=s.heap.push { cls:=.type "tuple", data:=.seq ((items.toList.drop ER).take cW).toArray } })(hsz:Hj):vQ ap A (tM ku HN) Q E s:=by
 have htake:sizeOk (.seq ((items.toList.drop ER).take cW).toArray):=by
  show ((items.toList.drop ER).take cW).toArray.size<=sizeLine;rw[zQ,zf,yO,zO];omega
 have hj:sIx items.size items.size hi<=items.size:=qiG _ _ bX hi;obtain⟨os,hos,hcs,hds⟩:=id hs;have hTs:s.TypeIs HN "slice" := adK;unfold tM
 try with_reducible refine vp ?_
 first|refine vA gr|skip
 refine vA (wpAny_sequenceKey ht.typeIs (by decide) ?_);refine vA (wpAny_callSpecial?_slot (name:=Str.ofString "__getitem__") ht.typeIs PyProof.Rows.slot_tuple_getitem
  mF)
 show vQ _ _ (Builtin.Tuple.tupleItemsOf ku >>= _) _ _ s;refine vA RP;refine vA (uq hTs ?_);rw[vH (by decide)];refine vA (q3t hs pl pu ?_);have hno:¬(pj=true):=by
  intro q;rw[yP,yP]at q;have q1:KL=0:=eq_of_beq q.1.1;have q2:sIx items.size items.size hi-sIx items.size 0 lo=items.size:=eq_of_beq q.2;exact hw QG
 show vQ _ _ (if pj=true then _ else _) _ _ s;rw[vJ hno,qfX]
 first
  | exact vA (m:=Builtin.Tuple.tupleExact _) (vq rj htake)
  | exact vA (m:=Builtin.Tuple.tupleExact _) (vq (vA (vG rj)) htake)
  | exact vA (vA (m:=Builtin.Tuple.tupleExact _) (vq (vG rj) htake))
  | exact vA (vA (m:=Builtin.Tuple.tupleExact _) (vq rj htake))
end
end HT
namespace L2
open PySem PySem.Spec PyProof.Rows
abbrev TO:=St->Hp->FY->Prop
def PO(X:Cx)(e:EY)(t:TO):Prop :=
 ∀(pins:aD)(s:vC)(σ:St)(H:Hp)(Q:FY),Inv X pins σ H s->t σ H Q ->
  vQ aq X.A (evalPart e X.env) (λu s'=>∃o H',Inv X pins σ H' s'/\tj u o/\Q o H') X.xe s
noncomputable def zC5:TO:=λ_ H Q=>Q none H
noncomputable def tPart(t:TE):TO:=λσ H Q=>t σ H λx H1=>∃i,x=.int i/\Q VF H1
theorem q2O{ns:af}:∀{us:bu},Xf cN us->uI us ns:=by
 induction ns with
 | nil=>intro us r;rw[yr]at r;cases r;exact .nil
 | cons n ns ih=>
  intro us r;rw[zZ]at r;cases r with
  | cons r1 r2=>
   obtain⟨t,e⟩:=r1;subst e;exact .cons n t (ih r2)
section
variable{X:Cx}{e:vW}{te:TE}{lo hi:Option vW}{tl th:TO}{pos p2:Pos}
theorem qhs:PO X none zC5:=by
 intro pins s σ H Q I h;rw[evalPart_none];exact vG ⟨none,H,I,.none,h⟩
theorem qhM(h:pG):PO X (some e) (tPart te):=by
 intro pins s σ H Q I hw;rw[evalPart_some];refine thn Rb λu s1 Z_=>?_;obtain⟨x,H1,I1,r1,q1⟩:=Z_;obtain⟨i,rfl,q⟩:=q1;obtain⟨t,rfl⟩:=r1;exact⟨VF,H1,I1,AV,q⟩
def SlR(X:Cx)(r:ja):Prop :=
 ∀(pins:aD)(s:vC)(σ:St)(H:Hp)(x:V)(v vl vu:vB)(lo hi:fw)(sl:vF)(Q:VK),Inv X pins σ H s->RelV x v->s.heap.IsSliceOf sl vl vu .none->tj vl lo->tj vu hi->r x lo hi H Q ->
  ∃T id,u9 BA "__getitem__" = pure (some jW)/\s.TypeIs v T/\vQ aq X.A (tM v HN) cT X.xe s
theorem SlR.or{r r':ja}(h:SlR X r)(h':SlR X r'):SlR X (λx lo hi H Q=>r x lo hi H Q\/r' x lo hi H Q):=by
 intro pins s σ H x v vl vu lo hi sl Q I rx hs pl pu q;rcases q with q|q
 ·exact h pins s σ H x v vl vu lo hi sl Q I rx hs pl pu q
 ·exact h' pins s σ H x v vl vu lo hi sl Q I rx hs pl pu q
noncomputable def tSl(r:ja)(te:TE)(tl th:TO):TE:=λσ H Q=>te σ H λx H1=>tl σ H1 λl H2=>th σ H2 λu H3=>r x l u H3 Q
theorem qf0{r:ja}(hr:SlR X r)(he:pG)(hl:PO X lo tl)(hu:PO X hi th):PE X (.Subscript e Em pos) (tSl r te tl th):=by
 intro pins s σ H Q I h;refine Subscript_ DN;obtain⟨x,H1,I1,r1,q1⟩:=Z_;refine wpAny_Slice (thn (hl pins s1 σ H1 _ I1 q1) λvl s2 ⟨l,H2,I2,pl,q2⟩=>thn (hu pins s2 σ H2 _ I2 q2) λvu s3 ⟨u,H3,I3,pu,q3⟩=>?_);rw[evalPart_none];refine vG ?_;have I4:Inv X pins σ H3 { s3 with heap:=s3.heap.push { cls:=.type "slice", data:=.fields #[vl,vu,.none] } }:=I3.kept (t':=s3.toks) λb ob q=>zE _ q;obtain⟨T,id,hT,ht,hg⟩:=hr pins { s3 with heap:=s3.heap.push { cls:=.type "slice", data:=.fields #[vl,vu,.none] } } σ H3 x v vl vu l u s3.heap.objs.size Q I4 r1 (Yy ..) pl pu q3;show vQ aq X.A (sT e Em v Rw) cT X.xe { s3 with heap:=s3.heap.push { cls:=.type "slice", data:=.fields #[vl,vu,.none] } };exact tail_any (ops:=[Rw,v]) ht hT hg (by with_unfolding_all rfl)
noncomputable def zBz(xs:bg)(lo hi:fw):List V:=(xs.drop oV).take eN
theorem q5N(xs:bg)(lo hi:fw):(zBz xs lo hi).length<=xs.length:=by
 unfold zBz;rw[zf,yO];omega
def rSlT(K:zC):V->Option Int->Option Int->Hp->VK->Prop:=λx lo hi H Q=>∃a xs,x=.ref a/\SqT K H a xs /\
 ¬oI/\∀p,H p=none->Q aO (upd H p (.tup Fs))
theorem qjt:SlR X (rSlT X.K):=by
 intro pins s σ H x v vl vu lo hi sl Q I rx hs pl pu h;obtain⟨a,xs,rfl,hx,hw,q⟩:=h;cases rx;obtain⟨its,r,ht,hz⟩:=I.tuple hx;have hlen:its.toArray.size=xs.length:=by rw[zQ];exact r.length.symm
 refine oz;refine HT.q5M ht hs pl pu (by rw[hlen];exact hw) ?_ (by rw[hlen];exact hz);rw[hlen];refine⟨aL,_,I.laid (t':=s.toks) (o:=.tup Fs) Iv bX ?_,rfl,q _ nW⟩;exact⟨Vt,_,abf,IsTup.new _ _⟩
noncomputable def rCatT(K:zC):R2:=λx y H Q=>∃a b xs ys,x=.ref a/\y=.ref b/\SqT K H a xs/\SqT K H b ys/\xs≠[]/\xs.length+ys.length<=sizeLine /\
 (ys=[]->Q dH H)/\(ys≠[]->∀p,H p=none->Q aO (upd H p (.tup Nx)))
theorem Xf.nil_iff{xs:bg}{us:bu}(r:PD):us=[]↔xs=[]:=by
 cases r with
 | nil=>simp
 | cons _ _=>simp
theorem qha:OpR X K1 (rCatT X.K):=by
 intro pins s σ H x y v u Q I rx ry h;obtain⟨a,b,xs,ys,rfl,rfl,ha,hb,hx,hz,q1,q2⟩:=h;cases rx;cases ry;obtain⟨its,r1,p1,_⟩:=I.tuple ha;obtain⟨its2,r2,p2,_⟩:=I.tuple hb;refine HT.qhr p1 p2 (λz=>hx (r1.nil_iff.mp z)) (λz=>⟨dH,H,I,rfl,q1 (r2.nil_iff.mp z)⟩) Fq (by rw[<- r1.length,<- r2.length];exact hz);refine⟨aL,_,I.laid (t':=s.toks) (o:=.tup Nx) Iv bX ?_,rfl,q2 (λw=>z (r2.nil_iff.mpr w)) _ nW⟩;exact⟨by rw[zD];exact hz,_,r1.append r2,IsTup.new _ _⟩
end
noncomputable def ixN(n:Nat)(i:Int):Option Nat:=if 0<=i then (if i<n then some i.toNat else none)else if -cR<=i then some (i+n).toNat else none
noncomputable def atI{α:Type}(xs:bH)(i:Int):Option α:=(ixN xs.length i).bind λj=>xs[j]?
theorem qi7{n:Nat}{i:Int}{j:Nat}(h:ixN n i=some j):seqIndex? i n=some j/\j<n/\-cR<=i/\i<n:=by
 unfold ixN at h
 by_cases h0:0<=i
 ·rw[vH h0]at h
  by_cases h1:i<n
  ·rw[Qc]at h
   have e:i.toNat=j:=zr h;exact⟨by rw[seqIndex_of h0 h1,e],∅,∅,h1⟩
  ·rw[vJ h1]at h;cases h
 ·rw[vJ h0]at h
  by_cases h1:-cR<=i
  ·rw[Qc]at h
   have e:(i+n).toNat=j:=zr h;exact⟨by rw[seqIndex_neg ∅ h1,e],∅,h1,∅⟩
  ·rw[vJ h1]at h;cases h
theorem q77{α:Type}{xs:bH}{i:Int}{v:α}(h:atI xs i=some v):∃j,seqIndex? i xs.length=some j/\xs[j]?=some v/\j<xs.length/\-Mf<=i/\i<xs.length:=by
 unfold atI at h;cases e:ixN xs.length i with
 | none=>rw[e]at h;cases h
 | some j=>
  rw[e]at h;obtain⟨h1,h2,h3,h4⟩:=qi7 e;exact⟨j,h1,h,h2,h3,h4⟩
def zAn(b:vW):Prop:=∀o i,subscripted b false o i=operate [o,i] (tM o i)
def IxR(X:Cx)(r:R2):Prop :=
 ∀(value slice:vW)(pins:aD)(s:vC)(σ:St)(H:Hp)(x y:V)(v u:vB)(Q:VK),Inv X pins σ H s->RelV x v->RelV y u->r x y H Q ->
  subscripted slice false v u=operate [v,u] (tM v u)->vQ aq X.A (sT value slice v u) cT X.xe s
def MtR(X:Cx)(id:String)(r:pr):Prop :=
 ∀(pins:aD)(s:vC)(σ:St)(H:Hp)(x:V)(xs:bg)(v:vB)(us:bu)(Q:VK),Inv X pins σ H s->RelV x v->Xf xs us->r x xs H Q ->
  vQ aq X.A aaX cT X.xe s
section
variable{X:Cx}{a b:vW}{ta tb:TE}{pos:Pos}
theorem IxR.or{r r':R2}(h:IxR X r)(h':IxR X r'):IxR X Iu:=by
 intro value slice pins s σ H x y v u Q I rx ry q hs;rcases q with q|q
 ·exact h value slice pins s σ H x y v u Q I rx ry q hs
 ·exact h' value slice pins s σ H x y v u Q I rx ry q hs
theorem q4K{r:R2}(hr:IxR X r)(ha:pH)(hb:Jc)(hs:zAn b):PE X Gm Ie:=by
 intro pins s σ H Q I h;exact Subscript_ (binT ha hb I h λv u s2 x y H2 I2 rx ry q=>hr a b pins s2 σ H2 x y v u Q I2 rx ry q (hs _ _))
noncomputable def rIxL(K:zC):R2:=λx y H Q=>∃p xs i v,x=.ref p/\y=.int i/\SqL K H p xs/\atI xs i=some v/\Q v H
noncomputable def rIxT(K:zC):R2:=λx y H Q=>∃p xs i v,x=.ref p/\y=.int i/\SqT K H p xs/\atI xs i=some v/\Q v H
noncomputable def rIxS:R2:=λx y H Q=>∃z i c,x=.str z/\y=.int i/\z.length<=sizeLine/\atI z.cps.toList i=some c/\Q (.str ⟨#[c]⟩) H
theorem q79:IxR X (rIxL X.K):=by
 intro value slice pins s σ H x y v u Q I rx ry h hs;obtain⟨p,xs,i,z,rfl,rfl,hq,he,q⟩:=h;cases rx;obtain⟨t,rfl⟩:=ry;obtain⟨its,r,pl,hz⟩:=I.list hq;obtain⟨j,h1,h2,h3,h4,h5⟩:=q77 he;obtain⟨w,ew,rw'⟩:=r.get h2;have hl:=r.length;have hn:=zAD;have fin:EP X pins σ Q w s:=acj
 by_cases h0:0<=i
 ·have hj:i.toNat=j:=by
   rw[seqIndex_of h0 h5]at h1;exact zr h1
  exact item_listR pl.isList h0 ∅ (by rw[hj];simpa using ew) fin hs
 ·have hj:(i+(its.toArray.size:Int)).toNat=j:=by
   rw[seqIndex_neg ∅ h4]at h1;rw[zQ,<- hl];exact zr h1
  exact tm (x:=w) pl.isList.typeIs slot_list_getitem.lookup
   (wpAny_getItem_list_neg (Q:=λr s'=>r=w/\EP X pins σ Q r s') pl.isList ∅ (by rw[zQ] <;> omega) ∅ (by rw[hj];simpa using ew) ⟨rfl,fin⟩) hs
theorem q5o:IxR X (rIxT X.K):=by
 intro value slice pins s σ H x y v u Q I rx ry h hs;obtain⟨p,xs,i,z,rfl,rfl,hq,he,q⟩:=h;cases rx;obtain⟨t,rfl⟩:=ry;obtain⟨its,r,pl,hz⟩:=I.tuple hq;obtain⟨j,h1,h2,h3,h4,h5⟩:=q77 he;obtain⟨w,ew,rw'⟩:=r.get h2;have hl:=r.length;have hn:=zAD;have fin:EP X pins σ Q w s:=acj;exact tm (x:=w) pl.typeIs slot_tuple_getitem.lookup
  (getItem_tuple (j:=j) (Q:=λr s'=>r=w/\EP X pins σ Q r s') pl ∅ ∅ (by rw[zQ,<- hl];exact h1) ⇑ew ⟨rfl,fin⟩) hs
theorem qiM:IxR X rIxS:=by
 intro value slice pins s σ H x y v u Q I rx ry h hs;obtain⟨z,i,c,rfl,rfl,hz,he,q⟩:=h;obtain⟨t,rfl⟩:=rx;obtain⟨t',rfl⟩:=ry;obtain⟨j,h1,h2,h3,h4,h5⟩:=q77 he;have hl:z.cps.toList.length=z.length:=by simp[Str.length]
 rw[hl]at h1 h4 h5;have hn:=zAD;exact tail_any abB slot_str_getitem.lookup (getItem_str (c:=c) (by
  have e1:decide (i < -(2^63:Int))=false:=vX ∅;have e2:decide (i>=2^63)=false:=vX ∅;rw[e1,e2,wq]) (by rw[h1];simpa using h2) ⟨.str ⟨#[c]⟩,H,jG,bD,q⟩) hs
noncomputable def rIx(K:zC):R2:=λx y H Q=>rIxL K x y H Q\/rIxT K x y H Q\/rIxS x y H Q
theorem qiB:IxR X (rIx X.K):=q79.or (q5o.or qiM)
theorem Inv.lst{pins:aD}{σ:St}{H:Hp}{s:vC}{p:vF}{xs:bg}(I:au)(h:H p=some dk):
  ∃(its:bu) (n:Nat),Xf xs its/\s.heap.get? p=some { cls:=.type "list", data:=.seq its.toArray n }/\xs.length<=sizeLine:=by
 obtain⟨z,its,n,r,e⟩:=I.hok p _ h;exact⟨its,n,r,e,z⟩
theorem q95(lo hi:fw)(n:Nat):(uz lo hi none n).1=((HT.sIx n 0 lo:Nat):Int)/\(uz lo hi none n).2.1=((HT.sIx n n hi:Nat):Int)/\(uz lo hi none n).2.2=1:=by
 refine⟨?_,?_,rfl⟩
 ·cases lo with
  | none=>simp[uz,HT.sIx]
  | some i=>
   simp only[uz,HT.sIx,YW,show Bf>0 by decide,if_true]
   by_cases h:i<0
   ·simp only[h,if_true] <;> omega
   ·simp only[h,if_false] <;> omega
 ·cases hi with
  | none=>simp[uz,HT.sIx]
  | some i=>
   simp only[uz,HT.sIx,YW,show Bf>0 by decide,if_true]
   by_cases h:i<0
   ·simp only[h,if_true] <;> omega
   ·simp only[h,if_false] <;> omega
theorem q8u(its:bu)(lo hi:fw):slicePick its.toArray lo hi none=((its.drop (HT.sIx its.length 0 lo)).take (HT.sIx its.length its.length hi-HT.sIx its.length 0 lo)).toArray:=by
 obtain⟨h1,h2,h3⟩:=q95 lo hi its.toArray.size;unfold slicePick;rw[h1,h2,h3];simp only[sliceRange_one,pick_run,zQ] <;> rfl
def rSlL(K:zC):V->Option Int->Option Int->Hp->VK->Prop:=λx lo hi H Q=>∃a xs,x=.ref a/\SqL K H a xs/\∀p,H p=none->Q aO (upd H p (.lst Fs))
theorem qhb:SlR X (rSlL X.K):=by
 intro pins s σ H x v vl vu lo hi sl Q I rx hs pl pu h;obtain⟨a,xs,rfl,hx,q⟩:=h;cases rx;obtain⟨its,r,ht,hz⟩:=I.list hx;have hlen:=r.length;refine⟨"list", _,slot_list_getitem.lookup,ht.isList.typeIs,?_⟩;refine wpAny_getItem_list_slice ht.isList hs pl pu .none (by simp) ?_ (by rw[zQ] <;> omega);rw[q8u,<- hlen];refine⟨aL,_,I.laid (t':=s.toks) (o:=.lst Fs) Iv bX ?_,rfl,q _ nW⟩;exact⟨Vt,_,0,abf,jt⟩
theorem qw:WM X acf (λxs H Q=>∃p ys,xs=TC/\Kf/\Q E7 H):=by
 intro pins s σ H xs us Q I r h;obtain⟨p,ys,rfl,hq,q⟩:=h;obtain⟨u,rfl,rx⟩:=vals1 r;cases rx;have hn:=zAD;rcases hq with hq|hq
 ·obtain⟨its,r',pl,hz⟩:=I.list hq
  have hlen:=r'.length;exact Calls.call_len_list pl.isList (by simp only[zQ] <;> omega) ⟨E7,H,jG,⟨s.toks+1,by rw[zQ,hlen]⟩,q⟩
 ·obtain⟨its,r',pl,hz⟩:=I.tuple hq
  have hlen:=r'.length;exact len_tuple pl (by simp only[zQ] <;> omega) ⟨E7,H,jG,⟨s.toks+1,by rw[zQ,hlen]⟩,q⟩
theorem q5m:WM X Gi (λxs H Q=>∃p ys,xs=TC/\Kf/\∀l,H l=none->Q cM QT):=by
 intro pins s σ H xs us Q I r h;obtain⟨p,ys,rfl,hq,q⟩:=h;obtain⟨u,rfl,rx⟩:=vals1 r;cases rx;have fin:∀(its:bu),Xf ys its->ys.length<=sizeLine->∀(h':vk)(c':Nat),(∀b o',s.heap.get? b=some o'->h'.get? b=some o') ->
   h'.get? s.heap.objs.size=some { cls:=.type "list", dict:=none,data:=.seq its.toArray c',slots:=#[] }->EP X pins σ Q aL { s with heap:=h' }:=λits r' hz h' c' kp e=>
  ⟨aL,_,I.laid (t':=s.toks) kp bX (show Xg X.prog X.w _ h' _ Ae from ⟨hz,its,c',r',e⟩),rfl,q _ nW⟩
 rcases hq with hq|hq
 ·obtain⟨its,r',pl,hz⟩:=I.list hq
  have hlen:=r'.length;obtain⟨o,ho,hc,n,hd⟩:=pl.isList;exact call_list_seq p bC ho hc hd EL (by simp only[zQ] <;> omega)
 ·obtain⟨its,r',pl,hz⟩:=I.tuple hq
  have hlen:=r'.length;obtain⟨o,ho,hc,n,hd⟩:=pl;exact call_list_seq p MT ho hc hd EL (by simp only[zQ] <;> omega)
def tyV(K:zC)(T:String)(x:V)(H:Hp):Prop:=match x with
 | .str _=>T = "str"
 | .int _=>T = "int"
 | .ref p=>(T = "list" /\ ∃xs,SqL K H p xs)\/(T = "tuple" /\ ∃o,K.lookup p=some o/\o.cls=.type "tuple" /\ o.dict=none) \/
   (T = "dict" /\ ((∃kvs,H p=some cj)\/∃kvs,H p=some BC))\/(T = "set" /\ ∃S n,H p=some (.set S n))
 | _=>False
theorem qek{pins:aD}{σ:St}{H:Hp}{s:vC}{T:String}{x:V}{v:vB}(I:au)(r:RelV x v)(ty:tyV X.K T x H):
  s.TypeIs v T/\∀a,v=.ref a->∃ob,s.heap.get? a=some ob/\ob.dict=none:=by
 cases x with
 | str z=>
  obtain⟨t,rfl⟩:=r;cases (show T = "str" from ty);exact⟨abB,λ_ e=>nomatch e⟩
 | int i=>
  obtain⟨t,rfl⟩:=r;cases (show T = "int" from ty);exact⟨typeIs_int s i t,λ_ e=>nomatch e⟩
 | ref p=>
  cases r;rcases ty with⟨rfl,xs,hq⟩|⟨rfl,o,hk,hc,hd⟩|⟨rfl,hk⟩|⟨rfl,S,n,hk⟩
  ·obtain⟨its,_,pl,_⟩:=I.list hq
   refine⟨pl.isList.typeIs,λa e=>?_⟩;cases e;obtain⟨o,n,e,c,hd,_⟩:=pl;exact⟨o,e,hd⟩
  ·refine⟨⟨o,I.kIn p o hk,hc⟩,λa e=>?_⟩
   cases e;exact⟨o,I.kIn _ o hk,hd⟩
  ·have z:∃o,s.heap.get? p=some o/\o.ExactDict:=by
    rcases hk with⟨kvs,hk⟩|⟨kvs,hk⟩
    ·obtain⟨_,_,_,_,o,_,_,e,ex,_⟩:=I.hok p _ hk
     exact⟨o,e,ex⟩
    ·obtain⟨_,_,_,_,o,_,_,e,ex,_⟩:=I.hok p _ hk
     exact⟨o,e,ex⟩
   obtain⟨o,e,ex⟩:=z;refine Ly;cases e2;exact adL
  ·obtain⟨o,_,_,_,e,ex,_⟩:=I.hok p _ hk
   refine Ly;cases e2;exact adL
 | _=>exact False.elim ty
noncomputable def tBM0(K:zC)(T:String)(r:pr)(to:TE):TE:=λσ H Q=>to σ H λx H1=>tyV K T x H1/\r x [] H1 Q
noncomputable def tBM(K:zC)(T:String)(r:pr)(to:TE)(t:TA):TE:=λσ H Q=>to σ H λx H1=>tyV K T x H1/\t σ H1 λxs H2=>r x xs H2 Q
variable{o e:vW}{es:List vW}{to:TE}{t:TA}{name:Str}{apos cpos:Pos}{T id:String}{r:V->List V->Hp->VK->Prop}
theorem q56(pa:PlainAttrs T)(slot:Slot T name id)(hty:EO)(hm:MtR X id r)(ho:PE X o to)(hbase:LF:=by rfl)(hline:iJ=true:=by rfl):PE X (.Call P3 [] [] cpos) (tBM0 X.K T r to):=by
 intro pins s σ H Q I h;refine wpAny_Call_method0_late hbase hline QV;obtain⟨x,H1,I1,r1,ty,q1⟩:=Z_;obtain⟨h1,h2⟩:=qek I1 r1 ty;exact⟨T,id,pa,slot,hty,h1,h2,Calls.callWith_builtin rfl (PySem.evalArgs_none (hm pins s1 σ H1 x [] v [] Q I1 r1 .nil q1))⟩
theorem q2m(pa:PlainAttrs T)(slot:Slot T name id)(hty:EO)(hm:MtR X id r)(ho:PE X o to)(ha:Sg)(hbase:LF:=by rfl)(hfew:((vo cpos (vK kw X.env)).all (λx=>!x.1)&&(uO cpos kR).all ie
   && decide ((e::es).length+([]:List uN).length+(if ([]:List uN).isEmpty then 0 else 1)<30))=true:=by rfl)
  (hline:iJ=true:=by rfl) (hs:vK kw X.env=dW::vK es X.env:=by rfl) (hplain:(vo cpos iV).any (·.1)=false:=by rfl) :
  PE X (.Call P3 kw [] cpos) (tBM X.K T r to t):=by
 intro pins s σ H Q I h;refine wpAny_Call_method_late hbase hfew hline rfl QV;obtain⟨x,H1,I1,r1,ty,q1⟩:=Z_;obtain⟨h1,h2⟩:=qek I1 r1 ty;refine⟨T,id,pa,slot,hty,h1,h2,?_⟩;have hA:=ha cpos pins s1 σ H1 _ I1 q1;rw[hs]at hA ⊢;refine Calls.callWith_builtin (by show (false || (vo cpos iV).any (·.1))=false;rw[hplain] <;> rfl) (Calls.evalArgs_plain ?_);exact thn hA λus s2 ⟨vs,H2,I2,r2,q2⟩=>hm pins s2 σ H2 x vs v us Q I2 r1 r2 q2
end
def MtM(X:Cx)(id:String)(r:pr):Prop :=
 ∀(pins:aD)(s:vC)(σ:St)(H:Hp)(x:V)(xs:bg)(v:vB)(us:bu)(Q:VK),Inv X pins σ H s->RelV x v->Xf xs us->r x xs H Q ->
  vQ aq X.A aaX cT X.xe s
theorem Xf.one:∀{x:V}{us:bu},Xf [x] us->∃u,us=[u]/\RelV x u
 | _,_,.cons r .nil=>QK
theorem Xf.zero:∀{us:bu},Xf [] us->us=[]
 | _,.nil=>rfl
theorem Xf.dropLast{xs:bg}{us:bu}(h:PD):Xf xs.dropLast us.dropLast:=by
 induction h with
 | nil=>exact .nil
 | cons r t ih=>
  cases t with
  | nil=>exact .nil
  | cons q t'=>exact .cons r ih
theorem Xf.reverse{xs:bg}{us:bu}(h:PD):Xf xs.reverse us.reverse:=by
 induction h with
 | nil=>exact .nil
 | cons r t ih=>rw[ZL,ZL];exact Xf.append ih (.cons r .nil)
theorem Xf.rep{xs:bg}{us:bu}(h:PD):∀k:Nat,Xf (zk k xs).flatten (zk k us).flatten
 | 0=>.nil
 | k+1=>by
  rw[yU,yU,yB,yB];exact Xf.append h (Xf.rep h k)
theorem qc8{α:Type}(l:bH):l.eraseIdx (l.length-1)=l.dropLast:=by
 induction l with
 | nil=>rfl
 | cons a r ih=>
  cases r with
  | nil=>rfl
  | cons b r=>
   have e:(a::b::r).length-1=((b::r).length-1)+1:=by
    have h1:(a::b::r).length=r.length+2:=rfl;have h2:(b::r).length=r.length+1:=rfl;omega
   rw[e,List.eraseIdx_cons_succ,ih]
   all_goals rfl
theorem q86(its:bu):∀(k:Nat)(acc:bu),
  ZW JF acc.toArray (zk k its.toArray)=(acc++(zk k its).flatten).toArray
 | 0,acc=>by simp
 | k+1,acc=>by
  have e:acc.toArray++its.toArray=(acc++its).toArray:=by simp
  have e2:(acc++its)++(zk k its).flatten=acc++(zk (k+1) its).flatten:=by
   rw[yU,yB,zM]
  rw[<- e2,<- q86 its k (acc++its),<- e,yU,Zf]
section
variable{X:Cx}{pins:List (vF×Obj)}{σ:St}{H:Hp}{s:vC}{l b:vF}{xs ys zs:List V}
theorem Inv.lset{its its':bu}{n:Nat}{f:ab5}{t':Nat}(I:au)(hH:H l=some dk)(e:s.heap.get? l=some { cls:=.type "list", data:=.seq its.toArray n })(hf:f its.toArray=its'.toArray)(hv:Xf ys its')(hz:Ix):
  Inv X pins σ QT { s with heap:=s.heap.update l Oo,toks:=t' }:=by
 have q:=PySem.IsL.update e f;rw[hf]at q;refine I.write (x:=l) (e:=l) (by rw[hH];exact trivial) bC (λb' u hb hu=>(zw s.heap Oo ji).trans hu) ⟨_,q⟩ ?_;exact⟨hz,its',_,hv,q⟩
theorem Inv.lnew{its:bu}{t':Nat}(I:au)(hv:Xf ys its)(hz:Ix):
  Inv X pins σ (upd H s.heap.objs.size Ae) { s with heap:=s.heap.push { cls:=.type "list", data:=.seq its.toArray },toks:=t' } :=
 I.laid JK bX ⟨hz,its,0,hv,jt⟩
theorem Inv.fresh(I:au):H s.heap.objs.size=none:=I.hok.fresh bX
theorem Inv.lstM(I:au)(hH:H l=some dk):xs.length<=sizeLine/\∃(its:bu) (n:Nat),Xf xs its/\xs.length=its.length/\s.heap.get? l=some { cls:=.type "list", data:=.seq its.toArray n }:=by
 obtain⟨z,its,n,r,e⟩:=I.hok l _ hH;exact⟨z,its,n,r,r.length,e⟩
theorem zAL{n:Nat}(h:n<=sizeLine):Builtin.List.listTooLong n=false:=by
 unfold Builtin.List.listTooLong;exact vX ∅
end
section
variable{X:Cx}
def WN:V->List V->Hp->VK->Prop:=λx vs H Q=>∃l xs y,x=.ref l/\vs=[y]/\H l=some dk/\xs.length<sizeLine/\Q .non (upd H l (.lst (xs++[y])))
theorem q0q:MtM X "list.append" WN:=by
 intro pins s σ H x vs v us Q I rx rv h;obtain⟨l,xs,y,rfl,rfl,hH,hz,q⟩:=h;cases rx;obtain⟨u,rfl,ru⟩:=rv.one;obtain⟨z,its,n,r,hl,e⟩:=I.lstM hH;refine ux F.slot_list_append fR F.entry_list_append (F.args_list_append_2 _ _) (PySem.list_append l its.toArray n u (by rw[zQ];omega)) JE;refine⟨.non,_,I.lset (its':=its++[u]) hH e (by simp) (r.append adF) ?_,rfl,q⟩;rw[zD,zT];omega
def zBu:V->List V->Hp->VK->Prop:=λx vs H Q=>∃l b xs zs,x=.ref l/\vs=[DE]/\H l=some dk/\H b=some (.lst zs)/\xs.length+zs.length<=sizeLine/\Q .non (upd H l MR)
theorem qe2:MtM X "list.extend" zBu:=by
 intro pins s σ H x vs v us Q I rx rv h;obtain⟨l,b,xs,zs,rfl,rfl,hH,hB,hz,q⟩:=h;cases rx;obtain⟨u,rfl,ru⟩:=rv.one;cases ru;obtain⟨z,its,n,r,hl,e⟩:=I.lstM hH;obtain⟨z2,its2,n2,r2,hl2,e2⟩:=I.lstM hB;have hsz:its.toArray.size+its2.toArray.size<=sizeLine:=by rw[zQ,zQ];omega
 have hlong:¬(!its.toArray.isEmpty&&Builtin.List.listTooLong Hi)=true:=by
  rw[zAL hsz,ZA];exact xA
 refine ux F.slot_list_extend fR F.entry_list_extend Os
  (AutoSeq1.list_extend_list_list_0 l its.toArray n b its2.toArray n2 hlong (by rw[zQ];omega) ∅) ⟨e,e2,?_⟩
 refine⟨.non,_,I.lset (its':=its++its2) hH e (by simp) Pf ?_,rfl,q⟩;rw[zD];omega
def rPop:V->List V->Hp->VK->Prop:=λx vs H Q=>∃l xs y,x=.ref l/\vs=[]/\H l=some dk/\xs[xs.length-1]?=some y/\Q y (upd H l (.lst xs.dropLast))
theorem q9z:MtM X "list.pop" rPop:=by
 intro pins s σ H x vs v us Q I rx rv h;obtain⟨l,xs,y,rfl,rfl,hH,hy,q⟩:=h;cases rx;have hus:=rv.zero;subst hus;obtain⟨z,its,n,r,hl,e⟩:=I.lstM hH;obtain⟨u,hu,ru⟩:=r.get hy;have hy':its.toArray[VU]?=some u:=by
  show its.toArray[its.length-1]?=some u;rw[<- zd,<- hl];exact hu
 refine ux F.slot_list_pop fR F.entry_list_pop (F.args_list_pop_1 _) (MeetsSeq.list_pop_last l its.toArray n u hy' (by rw[zQ];omega)) JE;refine⟨y,_,I.lset (its':=its.dropLast) hH e ?_ r.dropLast ?_,ru,q⟩
 ·show its.toArray.eraseIdxIfInBounds VU=its.dropLast.toArray
  rw[zQ,List.eraseIdxIfInBounds_toArray,qc8]
 ·rw[List.length_dropLast]
  omega
def zB5:V->List V->Hp->VK->Prop:=λx vs H Q=>∃l xs,x=.ref l/\vs=[]/\H l=some dk/\Q .non QS
theorem q9C:MtM X "list.clear" zB5:=by
 intro pins s σ H x vs v us Q I rx rv h;obtain⟨l,xs,rfl,rfl,hH,q⟩:=h;cases rx;have hus:=rv.zero;subst hus;obtain⟨z,its,n,r,hl,e⟩:=I.lstM hH;refine ux F.slot_list_clear fR F.entry_list_clear (F.args_list_clear_1 _) (AutoSeq1.list_clear_list_0 l its.toArray n (by rw[zQ];omega)) JE;exact⟨.non,_,I.lset (its':=[]) (ys:=[]) hH e rfl .nil pB,rfl,q⟩
noncomputable def rCat:R2:=λx y H Q=>∃l b xs zs,x=.ref l/\y=.ref b/\H l=some dk/\H b=some (.lst zs)/\xs.length+zs.length<=sizeLine/\∀p,H p=none->Q aO (upd H p MR)
theorem qjo:OpR X K1 rCat:=by
 intro pins s σ H x y v u Q I rx ry h;obtain⟨l,b,xs,zs,rfl,rfl,hH,hB,hz,q⟩:=h;cases rx;cases ry;obtain⟨z,its,n,r,hl,e⟩:=I.lstM hH;obtain⟨z2,its2,n2,r2,hl2,e2⟩:=I.lstM hB;refine PySem.P.add_list e e2 ?_ (by rw[zQ,zQ];omega);have ea:its.toArray++its2.toArray=(its++its2).toArray:=by simp
 rw[ea];exact⟨.ref _,_,I.lnew (t':=s.toks) Pf (by rw[zD];omega),rfl,q _ I.fresh⟩
noncomputable def rRep:R2:=λx y H Q=>∃l k xs,x=.ref l/\y=.int k/\H l=some dk/\-(2^63)<=k/\k<2^63/\xs.length*k.toNat<=sizeLine /\
 ∀p,H p=none->Q aO (upd H p (.lst (zk k.toNat xs).flatten))
theorem qht{α:Type}(xs:bH)(k:Nat):(zk k xs).flatten.length=k*xs.length:=by
 induction k with
 | zero=>simp
 | succ k ih=>rw[yU,yB,zD,ih,Nat.succ_mul,Nat.add_comm]
theorem qjr:OpR X (uc .Mult) rRep:=by
 intro pins s σ H x y v u Q I rx ry h;obtain⟨l,k,xs,rfl,rfl,hH,h1,h2,hz,q⟩:=h;cases rx;obtain⟨t,rfl⟩:=ry;obtain⟨z,its,n,r,hl,e⟩:=I.lstM hH;have hlen:its.toArray.size*k.toNat<=sizeLine:=by rw[zQ,<- hl];exact hz
 have hcap:¬its.toArray.size*k.toNat>(2^63-1)/8:=by
  have:ad4<=(2^63-1)/8:=by decide
  omega
 have hfit:¬(!Builtin.List.listFitsIndex k)=true:=by
  rw[fitsIndex_both h1 h2];exact xA
 have hlong:¬Builtin.List.listTooLong (its.toArray.size*k.toNat)=true:=by
  rw[zAL hlen];exact xA
 have hnew:ZW JF #[] (zk (if its.toArray.isEmpty=true then 0 else k.toNat) its.toArray)=(zk k.toNat its).flatten.toArray:=by
  have f0:∀m:Nat,ZW JF #[] (zk m its.toArray)=(zk m its).flatten.toArray:=λm=>by
   have:=q86 its m [];rw[yT]at this;exact this
  rw[f0];cases its with
  | nil=>simp
  | cons a r'=>rw[vJ (by simp)]
 refine wpAny_binaryOp_repeat_ref (T := "list") (U := "int") (by decide) fR (λs'=>typeIs_int s' k t) noFill_list_mul F.fills_int_mul F.slot_int_rmul repeat_list F.slot_int_index.lookup
  (ux F.slot_int_rmul (typeIs_int s k t) F.entry_int_rmul (F.args_int_rmul_2 _ _) (int___rmul___int_list k t l its.toArray n)
   ⟨e,rfl,fR,ux F.slot_list_mul fR F.entry_list_mul (F.args_list_mul_2 _ _) (AutoListH.list___mul___list_int_3 l its.toArray n k t hfit hcap hlong) JE⟩)
 rw[hnew];exact⟨.ref _,_,I.lnew (t':=s.toks) (r.rep k.toNat) (by rw[qht,Nat.mul_comm];exact hz),rfl,q _ I.fresh⟩
end
section
variable{prog:vU}{w:vY}{A:vg}{E:vB->vC->Prop}{s:vC}
end
section
variable{X:Cx}
end
end L2
namespace Att
open PySem PySem.W PySem.Calls PyProof.Rows
theorem Wu{P:Params}{h:vk}:∀(ns:af)(vs:bu),WellAll P h vs VO->uI vs ns:=by
 intro ns
 induction ns with
 | nil=>
  intro vs w;rw[yr]at w;cases w;exact .nil
 | cons n ns ih=>
  intro vs w;rw[zZ]at w;cases w with
  | cons a b=>
   cases a;exact .cons _ _ (ih _ b)
theorem zBl{l:OpenLaw}{n:Nat}(hn:Q9){P:Params}{h:vk}{args:List WData}{vals:bu}(hpre:l.row.toRowW.claim.pre args=true)(hwl:WellAll P h vals args):
  ∃a vs ns,vals=[Value.ref a]/\args=[WData.list VO]/\h.get? a=some { cls:=.type "list", data:=.seq vs.toArray }/\uI vs ns/\ns.length<=n:=by
 have hsh:WShape.hasAll [] args [.list .int]=true:=(pre_splitW hpre).1;have hc:l.pre.holds [] { args:=args }=true:=(pre_splitW hpre).2;obtain⟨d,r,rfl,h1,h2⟩:=hasAllW_cons hsh;obtain rfl:=hasAllW_nil h2;obtain⟨xs,rfl,h3⟩:=hasW_list h1;obtain⟨ns,rfl⟩:=items_int h3;have hlen:ns.length<=n:=by
  unfold OpenLaw.pre at hc;have h4:(WTm.not (.lt (.lit GF) (.len (.arg 0)))).holds [] { args:=[.list (ns.map .int)] }=true:=by
   have h4:=(holds_andW hc).1;rw[hn]at h4;exact h4
  have h5:=condW_of h4 (w_not (w_lt w_lit (w_len_list (w_arg rfl))));rw[zB]at h5;refine Nat.le_of_not_lt λq=>?_;have q':cR<((ns.length:Nat):Int):=∅
  first
   | (rw[vT q']at h5;exact vP h5 (by decide))
   | (simp at h5;omega)
 cases hwl with
 | cons w1 w2=>
  cases w2;cases w1 with
  | list ho hall=>exact⟨_,_,ns,rfl,rfl,ho,Wu ns _ hall,hlen⟩
theorem zBj(l:OpenLaw)(args:List WData):l.row.toRowW.claim.post args mX args=true :=
 postW_of (r:=l.row.toRowW) (X:=(true==true))
  (show WShape.has [] mX .bool=true by first|rfl|decide|simp[WShape.has,WShape.arms,WShape.armsAll])
  (show (WTm.eq .res (.lit mX)).value [] { args:=args,res:=some mX,after:=args }=some (.bool (true==true))from w_eq_bool (w_res rfl) w_lit) rfl
theorem attach_call{l:OpenLaw}{n:Nat}{q:vU}{loose:cg}{XP:Tw}{YP:SR}{d:DefRec}(hn:Q9)(hdf:Hr)(call:∀(w:vY)(s₀ s₁:vC)(mg mb:bG)(fa:vF)(o:Obj)(pm cd doc:vB)(a:vF)(vs:bu)(ns:af),
   Ground q loose [] XP w s₀ mg mb s₁.heap->YP w s₁.heap ->
   s₁.heap.get? fa=some o->o.data=.func (docDef d.name d.params d.body d.scope pm cd doc)->s₁.heap.CodeRec cd d.name->mg d.name=some Ls ->
   s₁.heap.get? a=some { cls:=.type "list", data:=.seq vs.toArray }->uI vs ns->ns.length<=n->s₁.gens=#[] ->
   uj (model l.prog w) sO rg dG s₁) :
  WalkO q loose XP YP l.row.toRowW d [] BP:=by
 intro w s₀ s₁ mg mb G Y fa o pm cd doc dV kV ho hd hcd hD hmg hg args vals as hpre hlay hrd hwl hlo;obtain rfl:dV=.none:=Dflts.none hD hdf;obtain rfl:kV=.none:=Dflts.noKw hD;obtain⟨a,vs,ns,rfl,rfl,hobj,zBS,hlen⟩:=zBl hn hpre hwl;refine enter_call (uo (call w s₀ s₁ mg mb fa o pm cd doc a vs ns G Y ho (fd_plain hd) hcd hmg hobj zBS hlen hg) λr s' hq=>?_);obtain⟨rfl,h2,h3,h4⟩:=hq;exact⟨.inl ⟨mX,mX,[],rfl,Gr,mX,zBj l _,λ_=>⟨xU,λ_ hm=>(nomatch hm)⟩⟩,h2,h3,h4⟩
section
variable{prog:vU}{w:vY}{A:vg}{E:vB->vC->Prop}{s:vC}{K:Frag}
end
end Att
namespace L2
open PySem PySem.Spec PyProof.Rows
theorem q1B:∀{vs:bu}{ns:af},uI vs ns->Xf cN vs
 | _,_,.nil=>.nil
 | _,_,.cons n t h=>.cons MU (q1B h)
def Only(H:Hp):Prop:=∀b,H b=none\/∃o xs,H b=some (.frz o dk)
theorem qft{P:vU}{w:vY}{K:zC}{mg mb:bG}{CX:CXT}{k:Nat}{fa a:vF}{fd:vO}{x:Str}{sp:Sp}{s₁:vC}{vs:bu}{ns:af}(KX:K.In s₁.heap)(hns:s₁.heap.Ns vZ mg)(hb:s₁.heap.Ns builtinsNs mb)(hbb:∀x:Str,x ≠ "__name__" -> mb x=vn x)(hlim:s₁.heap.NoLimit)(hg:s₁.gens=#[])(ha:s₁.heap.get? a=some { cls:=.type "list", data:=.seq vs.toArray })(hi:uI vs ns)(hl:ns.length<=sizeLine)(hr:Room k sO)(F:∀base:vk,K.In base->base.Ns vZ mg->FnOk P w K mg base CX k fa fd [x] sp)(hbind:∀(s:vC)(u:vB),sf s fd SF [(x,u)])(hsp:∀H:Hp,Only H->SqL K H a cN->sp [dH] H Uy λ_ _ _=>False)(hCX:∀H e s',CX [] H s₁ abq e s'->False):
  uj Tp sO rg dG s₁:=by
 have rv:=q1B hi;have lenV:=hi.length;have core:∀H:Hp,Only H->SqL K H a cN->HOk P w H s₁.heap->(∀b,H b≠none->b=a)->(H a≠none->K.lookup a=none) ->
   uj Tp sO rg dG s₁:=by
  intro H hO hS hok hA hK;have base_of:∀{b:vF}{o:Obj},s₁.heap.get? b=some o->H b=none->(zCN s₁.heap H).get? b=some o:=λe n=>qf8 e n;have noA:∀{b:vF}{o:Obj}{es:Ot}{ep:Nat},s₁.heap.get? b=some o->o.data=.dict es ep->H b=none:=λ{b o es ep} e d=>by
   cases q:H b with
   | none=>rfl
   | some u=>
    have e':b=a:=hA b (by rw[q];simp);subst e';rw[ha]at e;cases e;have d':Data.seq vs.toArray _=Data.dict es ep:=d;cases d'
  have nsK:∀{b:vF}{m:bG},s₁.heap.Ns b m->(zCN s₁.heap H).Ns b m:=λ{b m} ⟨o,es,ep,e,d,r⟩=>⟨o,es,ep,base_of e (noA e d),d,r⟩;have hKb:K.In JL:=λb o e=>base_of (KX b o e) (by
   cases q:H b with
   | none=>rfl
   | some u=>
    have e':b=a:=hA b (by rw[q];simp);subst e';rw[hK (by rw[q];simp)]at e;cases e)
  have hM:Mod K mg JL:=⟨hKb,nsK hns,⟨mb,nsK hb,hbb⟩,let ⟨mc,h1,h2⟩:=hlim;⟨mc,nsK h1,h2⟩⟩;have e0:Env0 P w K mg JL sO [] s₁ H:=⟨rfl,hM,λb o e=>qiq e,Nat.le_of_eq (qdA _ _),trivial,λb hb=>vP (show b∈Rk from hb) (by simp),hok,.of_eq hg⟩;refine uo ((F _ hKb (nsK hns)).run sO [] s₁ H AB [dH] [dH] _ _ hr e0 (hbind s₁ dH) (.cons rfl .nil) (hsp H hO hS)) λr s' h=>?_;cases r with
  | error e=>exact(hCX H e s' h).elim
  | ok fl=>
   cases fl with
   | next=>exact False.elim h
   | brk=>exact False.elim h
   | cont=>exact False.elim h
   | ret u=>
    obtain⟨v,H',os,bare,un,hok',r',q⟩:=h;have q':v=.bl true:=q;subst q';obtain rfl:u=Value.bool true:=r';refine⟨rfl,OldK.of_keep λb o e=>?_,os,bare⟩;cases q:H b with
    | none=>exact un.keep b o e q (by intro z;exact vP (show b∈Rk from z) (by simp)) (by simp)
    | some u=>
     rcases hO b with z|⟨ob,xs,z⟩
     ·rw[q]at z;cases z
     ·have z2:=un.frzs b ob _ z
      obtain⟨e1,_⟩:=hok b _ z;obtain⟨e2,_⟩:=hok' b _ z2;rw[e]at e1;cases e1;exact e2
 cases hk:K.lookup a with
 | some o=>
  have e:=KX a o hk;rw[ha]at e;cases e;refine core (λ_=>none) (λ_=>.inl rfl) (.inr ⟨_,vs.toArray,_,hk,rfl,rfl,rfl,by rw[zQ,lenV];exact hl,by simpa using rv⟩) (λb u z=>by have z':(none:Option HO)=some u:=z;cases z') (λb z=>vP rfl z) λz=>vP rfl z
 | none=>
  refine core (λb=>if b=a then some (.frz { cls:=.type "list", data:=.seq vs.toArray } HQ)else none) (λb=>?_) (.inl (.inr ⟨{ cls:=.type "list", data:=.seq vs.toArray },lg⟩)) Kq (λb z=>?_) λ_=>hk
  ·by_cases hb:b=a
   ·exact .inr ⟨_,_,vH hb⟩
   ·exact .inl O9
  ·by_cases hb:b=a
   ·have z':=(vH hb).symm.trans z
    cases z';subst hb;exact⟨ha,by rw[zB];exact hl,vs,_,rv,ha⟩
   ·have z':=(vJ hb).symm.trans z
    cases z'
  ·by_cases hb:b=a
   ·exact hb
   ·exact vP O9 z
noncomputable abbrev KOf{K:zC}{h:vk}(_:K.In h):zC:=K
theorem qbl{l:Zg}{n k:Nat}{q:vU}{loose:cg}{XP:Tw}{YP:SR}{d:DefRec}{K:Params->zC}{CX:vY->CXT}{sp:vY->Sp}{x:Str}(hn:Q9)(hn2:n<=sizeLine)(hdf:Hr)(hr:Room k sO)(hY:∀(w:vY)(h:vk),YP w h->(K w.params).In h)(F:∀(w:vY)(mg:bG)(fa:vF)(h:vk),(K w.params).In h->h.Ns vZ mg->mg d.name=some Ls ->
   ∃fd:vO,(∀(s:vC)(u:vB),sf s fd SF [(x,u)]) /\
    ∀base:vk,(K w.params).In base->base.Ns vZ mg->FnOk l.prog w Ei mg base (CX w) k fa fd [x] (sp w))
  (hsp:∀(w:vY)(H:Hp)(a:vF)(ns:af),ns.length<=n->Only H->SqL Ei H a cN->sp w [dH] H Uy λ_ _ _=>False)
  (hCX:∀(w:vY)(H:Hp)(s:vC)(e:vB)(s':vC),CX w [] H s abq e s'->False) :
  Yt q loose XP YP l.row.toRowW d [] BP:=by
 refine Att.attach_call hn hdf λw s₀ s₁ mg mb fa o pm cd doc a vs ns G Y ho hd hcd hmg hobj zBS hlen hg=>?_;have KX:=hY w _ Y;obtain⟨fd,hb,hF⟩:=F w mg fa _ KX G.T.g hmg;exact qft KX G.T.g G.T.b G.T.builtins G.T.nolimit hg hobj zBS (yI hlen hn2) hr hF hb (λH hO hS=>hsp w H a ns hlen hO hS) λH e s'=>hCX w H s₁ e s'
end L2
namespace L2
open PySem PySem.Spec PyProof.Rows
noncomputable def WR(s:vm):Arguments:=match s with
 | .FunctionDef _ a _ _ _ _ _ _ _ _=>a
 | _=>{ posonlyargs:=[],args:=[],vararg:=none,kwonlyargs:=[],kw_defaults:=[],kwarg:=none,defaults:=[] }
noncomputable def Xa(s:vm):List vm:=match s with
 | .FunctionDef _ _ b _ _ _ _ _ _ _=>b
 | _=>[]
noncomputable def Y5(s:vm):u4:=match s with
 | .FunctionDef _ _ _ _ _ _ sc _ _ _=>sc
 | _=>{ kind:=.function,names:=[],isGenerator:=false,isCoroutine:=false }
noncomputable abbrev CX0:CXT:=λ_ _ _ _ _ _=>False
noncomputable abbrev E0:XK:=λ_ _ _=>False
theorem zA1{X:Cx}:zBD CX0 X E0:=λ_ _ _ _ _ _ _ h=>h.elim
structure Fun (K:zC) (x qual:Str) (st:vm) (f:vF) (fd:vO):Prop where
 ex:∃(oc:vB) (od:Option vF) (kV doc pm:vB) (an:Option vF) (cdv ct:vB) (osl:Array (Option vB)),
  fd=xv x qual (WR st) (Xa st) (Y5 st) .none kV doc pm an cdv ct/\K.lookup f=some ⟨oc,od,.func fd,osl⟩/\w9 K cdv qual=true
 kp:xl K (.ref f)=true
section
variable{P:vU}{w:vY}{K:zC}{mg:Str->Option vB}{base:vk}
theorem Fun.ok{x qual:Str}{st:vm}{f:vF}{fd:vO}{N ps:cg}{k:Nat}{sp:Sp}(F:HJ)(S:FnScope N ps Hu)(len:∀vs H Q E,sp vs H Q E->vs.length=ps.length)(hbody:∀(cdv:vB)(A:vg)(outer:AU)(s:vC)(H:Hp)(vs:bg)(Q:VK)(E:XK),Room k (A.deeper (sF qual Hu s.heap.objs.size f cdv))->sp vs H Q E ->
   ∃t,PSs (zCA CX0 P w K mg base N qual Hu f cdv A outer s H E).nox ac9 t/\t { nx:=λ_ H'=>Q .non H',rt:=Q } DQ H):FnOk P w K mg base CX0 (k+1) f fd ps sp:=by
 obtain⟨oc,od,kV,doc,pm,an,cdv,ct,osl,rfl,lk,hcd⟩:=F.ex;refine qjP lk hcd S len λA outer s H vs Q E hr hsp=>?_;obtain⟨t,h,q⟩:=hbody cdv A outer s H vs Q E hr hsp;exact⟨t,h.nox,q⟩
theorem Fun.binds{x qual:Str}{st:vm}{f:vF}{fd:vO}{ps:cg}(F:HJ)(h:∀(kV doc pm:vB)(an:Jd)(cdv ct:vB)(us:bu),us.length=ps.length->bindArgs im Da=pure FF):Binds K fd ps []:=by
 obtain⟨oc,od,kV,doc,pm,an,cdv,ct,osl,rfl,lk,hcd⟩:=F.ex;exact .all (h kV doc pm an cdv ct)
theorem qjx{x qual:Str}{st:vm}{f:vF}{oc:vB}{od an:Jd}{osl:aau}{kV doc pm cdv ct:vB}(l:K.lookup f=some ⟨oc,od,.func im,osl⟩)(c:aby)(k:xl K iq=true):Fun K x qual st f im:=⟨⟨oc,od,kV,doc,pm,an,cdv,ct,osl,rfl,l,c⟩,k⟩
end
theorem zBm{n:Nat}(h:n<=1000):n<sizeLine:=Z5 h (by decide)
section
variable{X:Cx}
theorem pv(i:Nat){x:Str}{pos:Pos}(hN:X.N[i]?=some x:=by rfl)(hv:p7:=by first|exact Or.inl rfl|exact Or.inr aC|exact Or.inr Kh)(hd:aM:=by decide)(hcd:gP:=by decide):PE X jd LU:=qja hN hv hd hcd
end
def XL(H H':Hp):Prop:=∀b o,H b=some o->H' b=some o
theorem XL.refl(H:Hp):XL H H:=λ_ _ h=>h
theorem XL.trans{H H1 H2:Hp}(a:XL H H1)(b:XL H1 H2):XL H H2:=λc o h=>b c o (a c o h)
theorem XL.free{H H':Hp}(e:LY){l:vF}(h:H' l=Yx):H l=Yx:=by
 cases q:H l with
 | none=>rfl
 | some o=>
  rw[e l o q]at h;cases h
theorem XL.seq{K:zC}{H H':Hp}{a:vF}{xs:bg}(e:LY)(h:SqL K H a xs):SqL K H' a xs:=by
 rcases h with (h|⟨o,h⟩)|h
 ·exact .inl (.inl US)
 ·exact .inl (.inr ⟨o,US⟩)
 ·exact .inr h
end L2
namespace Hk
open PySem
def zBc(xs:EJ):Prop:=xs.toList.Pairwise (· < ·)
theorem q5z{l:cP}(h:l.Pairwise (· < ·)){i j:Nat}(hi:i<l.length)(hj:j<l.length)(hij:i<j):l[i]<l[j]:=yY.mp h i j hi hj hij
theorem qfd{xs:EJ}{j:Nat}(h:zBc xs):∀(fuel lo hi:Nat),lo<=hi->hi<=xs.size->hi-lo<=fuel->(∀k(z:ms),k<lo->xs.toList[k]<j)->(∀k(z:ms),hi<=k->j<=xs.toList[k]) ->
  SetTable.below.go xs j fuel lo hi<=xs.size/\(∀k(z:ms),k<SetTable.below.go xs j fuel lo hi->xs.toList[k]<j)/\(∀k(z:ms),SetTable.below.go xs j fuel lo hi<=k->j<=xs.toList[k]):=by
 intro fuel
 induction fuel with
 | zero=>
  intro lo hi h1 h2 h3 h4 h5;have e:lo=hi:=∅
  subst e;exact⟨h2,h4,h5⟩
 | succ n ih=>
  intro lo hi h1 h2 h3 h4 h5;unfold SetTable.below.go
  by_cases hl:lo<hi
  ·rw[vH hl]
   have hm:NM/2<xs.toList.length:=by rw[zO];omega
   have hg:xs.getD (NM/2) j=xs.toList[NM/2]:=by
    rw[Array.getD_eq_getD_getElem?,<- zd,zA hm];rfl
   by_cases hc:xs.getD (NM/2) j<j
   ·simp only[hc,if_true]
    refine ih _ _ ∅ h2 ∅ adN h5
    by_cases e:k=NM/2
    ·subst e;rw[hg]at hc;exact hc
    ·have:=q5z h z hm ∅
     rw[hg]at hc;omega
   ·simp only[hc,if_false]
    refine ih _ _ ∅ ∅ ∅ h4 adN
    by_cases e:k=NM/2
    ·subst e;rw[hg]at hc;omega
    ·have:=q5z h hm z ∅
     rw[hg]at hc;omega
  ·rw[vJ hl]
   have e:lo=hi:=∅
   subst e;exact⟨h2,h4,h5⟩
theorem q9X{xs:EJ}(h:zBc xs)(j:Nat):SetTable.below xs j<=xs.size/\(∀k(z:ms),k<SetTable.below xs j->xs.toList[k]<j)/\(∀k(z:ms),SetTable.below xs j<=k->j<=xs.toList[k]) :=
 qfd h xs.size 0 xs.size pB bX ∅ (λk z hk=>vP hk Vv) (λk z hk=>by rw[zO]at z;omega)
theorem q4N{α:Type}(xs:Array α)(p:Nat)(x:α):(SetTable.insertAt xs p x).toList=xs.toList.take p++x::xs.toList.drop p:=by
 unfold SetTable.insertAt;simp[xw,yy]
theorem qas{xs:EJ}(h:zBc xs){j:Nat}(hn:xs[AS]?≠some j):zBc (SetTable.insertAt xs AS j):=by
 obtain⟨h1,h2,h3⟩:=q9X h j;unfold zBc;rw[q4N,zc];have lt:∀y∈xs.toList.drop (SetTable.below xs j),j<y:=by
  intro y hy;obtain⟨k,hk,e⟩:=zY.mp hy;rw[yO]at hk;rw[xx]at e;have hb:SetTable.below xs j<xs.toList.length:=∅
  have hh:=h3 _ hb bX;have ne:xs.toList[AS]≠j:=λz=>hn (by rw[<- zd,zA hb,z]);have hle:xs.toList[AS]<=y:=by
   by_cases e0:k=0
   ·subst e0;rw[<- e];simp
   ·rw[<- e];exact yh (q5z h hb ∅ ∅)
  omega
 refine⟨wk (ZK _ _) h,za.mpr ⟨lt,wk (YF _ _) h⟩,λa ha b hb=>?_⟩;have haj:a<j:=by
  obtain⟨k,hk,e⟩:=zY.mp ha;rw[zf]at hk;rw[xD]at e;rw[<- e];exact h2 k ∅ ∅
 rcases zG.mp hb with rfl|hb
 ·exact haj
 ·exact YG haj (lt b hb)
structure Tb (t:SetTable) (n:Nat):Prop where
 fits:t.fits n=true
 rise:zBc t.place
 dum:t.dummies=#[]
theorem q9y{t:SetTable}(hd:t.dummies=#[])(j:Nat):t.slot j≠.dummy:=by
 unfold SetTable.slot;rw[hd]
 dsimp only
 split
 ·exact λz=>nomatch z
 ·have:SetTable.has #[] j=false:=by simp[SetTable.has]
  rw[this];exact λz=>nomatch z
theorem qaj{t:SetTable}(hd:t.dummies=#[]){h:Int}:∀(fuel:Nat)(p:SetTable.Probe)(m:SetTable.Met),p.dummy=none->SetTable.probe.go t (λ_=>h+1) h fuel p=some m->∃j,m=.empty j none/\t.slot j=.empty:=by
 intro fuel
 induction fuel with
 | zero=>intro p m _ e;cases e
 | succ n ih=>
  intro p m hp e;unfold SetTable.probe.go at e;cases hs:t.slot p.j with
  | empty=>
   rw[hs]at e;cases e;exact⟨p.j,by rw[hp],hs⟩
  | dummy=>exact vP hs (q9y hd _)
  | live i=>
   rw[hs]at e;have hne:(h+1==h)=false:=by simp only[beq_eq_false_iff_ne,ne_eq];omega
   dsimp only at e
   rw[hne]at e;refine ih _ m ?_ e;unfold SetTable.advance
   split
   ·exact hp
   ·exact hp
theorem qan{t:SetTable}(hd:t.dummies=#[]){h:Int}{slot:Nat}{b:Bool}(e:t.freeSlot h=some (slot,b)):b=false/\t.place[Bx]?≠some slot:=by
 unfold SetTable.freeSlot at e;cases q:t.probe (λ_=>h+1) h (t.probeStart h)with
 | none=>rw[q]at e;cases e
 | some m=>
  rw[q]at e;obtain⟨j,rfl,hs⟩:=qaj hd _ _ m (by rfl) q;cases e;refine⟨rfl,Fq⟩;unfold SetTable.slot at hs
  dsimp only at hs
  have:(t.place[Rq]?==some j)=true:=by
   rw[show t.place[Rq]?=some j from z];simp
  rw[vH this]at hs;cases hs
theorem qcJ(n:Nat):zBc (Array.range n):=by
 unfold zBc;rw[Array.toList_range];exact ZX
theorem q2S(t:SetTable)(n:Nat):Tb (t.standIn n) n:=by
 refine⟨?_,qcJ n,rfl⟩;unfold SetTable.fits SetTable.standIn SetTable.fill;simp;omega
theorem qjO{t:SetTable}{n:Nat}(h:zBc t.place)(hd:t.dummies=#[]):Tb (t.orStandIn n) n:=by
 unfold SetTable.orStandIn
 by_cases z:t.fits n=true
 ·rw[iP];exact⟨z,h,hd⟩
 ·rw[iw];exact q2S t n
theorem qiQ(t:SetTable)(n:Nat):(t.orStandIn n).led=t.led:=by
 unfold SetTable.orStandIn
 split <;> rfl
theorem qdZ{t:SetTable}{es:mS}{h:Int}{x:vB}(T:Tb t es.size):
  (layNew t es h x).2.2.1=false/\Tb (layNew t es h x).2.1 (layNew t es h x).1.size/\(layNew t es h x).2.1.led=t.led/\(layNew t es h x).1.toList.Perm ((h,x)::es.toList):=by
 unfold layNew;cases q:t.freeSlot h with
 | none=>
  refine⟨rfl,?_,rfl,?_⟩
  ·rw[Zh];exact q2S t _
  ·rw[ZM]
   exact List.perm_append_singleton _ _
 | some p=>
  obtain⟨slot,b⟩:=p;obtain⟨rfl,hn⟩:=qan T.dum q;have hd:(t.put slot).1.dummies=#[]:=by
   unfold SetTable.put
   dsimp only
   rw[T.dum];simp[SetTable.has]
  refine⟨rfl,qjO (qas T.rise hn) hd,(qiQ _ _).trans rfl,?_⟩;rw[q4N];refine xG ZP ?_;rw[yF]
theorem q6e{α:Type}{f:α->Option α}(h:∀x y,f x=some y->y=x):∀l:List α,(l.filterMap f).Sublist l
 | []=>by simp
 | a::r=>by
  rw[wA];cases q:f a with
  | none=>exact(q6e h r).cons a
  | some b=>rw[h a b q];exact(q6e h r).cons_cons a
theorem q6R{α:Type}:∀l:List α,(zo l.length).filterMap (λi=>l[i]?)=l
 | []=>rfl
 | a::r=>by
  rw[zJ,ZY,wA];simp only[wC];rw[Z4];have e:((λi=>(a::r)[i]?) ∘ Nat.succ)=λi=>r[i]?:=by funext i;simp
  rw[e,q6R r]
theorem qhH{mask finger moves:Nat}{led plain:Bool}{hs:Array Int}{t:SetTable}{o:EJ}(e:SetTable.laid mask finger moves led plain hs=some (t,o)):zBc t.place/\t.dummies=#[]/\t.led=led:=by
 unfold SetTable.laid at e;cases q:SetTable.layClean mask hs with
 | none=>rw[q]at e;cases e
 | some owner=>
  rw[q]at e;cases e;refine⟨?_,rfl,rfl⟩;unfold zBc
  dsimp only
  rw[List.map_filterMap];refine wk (q6e (λx y z=>?_) _) ZX;cases q2:owner.getD x none with
  | none=>rw[q2]at z;cases z
  | some c=>rw[q2]at z;exact(zr z).symm
theorem qfE{t:SetTable}{es:mS}(w:Nat):Tb (relayAll t es w).2.1 (relayAll t es w).1.size/\(relayAll t es w).2.1.led=t.led/\(relayAll t es w).1.toList.Perm es.toList:=by
 unfold relayAll;cases q:t.relaid (es.map (·.1)) w with
 | none=>exact SE
 | some p=>
  obtain⟨t',order⟩:=p
  dsimp only
  obtain⟨h1,h2,h3⟩:=qhH q
  by_cases z:(coversAll order es.size&&t'.fits (order.filterMap (es[·]?)).size)=true
  ·rw[iP]
   rw[yP]at z;refine⟨⟨z.2,h1,h2⟩,h3,?_⟩;have hp:order.toList.Perm QO:=List.isPerm_iff.mp z.1;rw[Array.toList_filterMap];have e:(λ(i:Nat)=>es[i]?)=λ(i:Nat)=>es.toList[i]?:=by funext i;simp
   rw[e];have q2:=hp.filterMap λi=>es.toList[i]?;rw[<- zO,q6R]at q2;exact q2
  ·rw[iw]
   exact SE
end Hk
namespace Hk
open PySem PySem.Spec PyProof.Rows
noncomputable def vI:vB->Int
 | .int i _=>i
 | _=>0
def zAH(e:dy):Prop:=∃x t,e=(rF x,Value.int x t)
theorem qcG{prog:vU}{w:vY}{l:L3}(h:∀e∈l,zAH e):ElemsOf (tK prog w) l:=λe he=>by
 obtain⟨x,t,rfl⟩:=h e he;exact⟨⟨x,Hm,rfl⟩,rfl⟩
def zAu(h:vk)(a:vF)(led:Bool)(xs:af):Prop:=∃o es ep t,h.get? a=some o/\o.ExactSet/\o.data=.set es ep t/\Tb t es.size/\t.led=led/\es.size<ur /\
 (∀e∈es.toList,zAH e)/\es.toList.map Cm=xs/\xs.Nodup
theorem zAu.len{h:vk}{a:vF}{led:Bool}{xs:af}(S:zAu h a led xs):xs.length<ur:=by
 obtain⟨o,es,ep,t,_,_,_,_,_,z,_,e,_⟩:=S;rw[<- e,zB,zO];exact z
theorem zAu.at{h h':vk}{a:vF}{led:Bool}{xs:af}(S:zAu h a led xs)(k:∀o,h.get? a=some o->h'.get? a=some o):zAu h' a led xs:=by
 obtain⟨o,es,ep,t,e,r⟩:=S;exact⟨o,es,ep,t,k o e,r⟩
theorem qbQ{prog:vU}{w:vY}{e:dy}(h:zAH e)(x:Int):(tK prog w).is x e.2=decide (vI e.2=x):=by
 obtain⟨y,t,rfl⟩:=h;show Value.isInt x (.int y t)=decide (y=x)
 by_cases z:y=x
 ·subst z;simp[Value.isInt]
 ·simp[Value.isInt,z]
theorem qeP{prog:vU}{w:vY}{l:L3}(h:∀e∈l,zAH e){x:Int}(q:l.findIdx? AY=none):x∉l.map Cm:=λz=>by
 obtain⟨e,he,ex⟩:=zi.mp z;have:=List.findIdx?_eq_none_iff.mp q e he;rw[qbQ (h e he),ex]at this;simp at this
theorem qcL{prog:vU}{w:vY}{l:L3}(h:∀e∈l,zAH e){x:Int}{j:Nat}(q:l.findIdx? AY=some j):x∈l.map Cm:=by
 obtain⟨hj,hp,_⟩:=List.findIdx?_eq_some_iff_getElem.mp q;rw[qbQ (h _ (yZ hj))]at hp;exact zi.mpr ⟨_,yZ hj,of_decide_eq_true hp⟩
section
variable{prog:vU}{w:vY}{A:vg}{E:vB->vC->Prop}{s:vC}
theorem qbH{h:vk}{a:vF}{o:Obj}{es es':mS}{ep:Nat}{t t':SetTable}{led:Bool}{xs:af}(go:h.get? a=some o)(gx:o.ExactSet)(gd:de)(T:Tb t' es'.size)(gl:t'.led=led)(gb:es'.size<ur)(gg:∀e∈es'.toList,zAH e)(gv:es'.toList.map Cm=xs)(gn:xs.Nodup):
  (h.update a HE).get? a=some { o with data:=.set es' (ep+1) t' }/\zAu (h.update a HE) a led xs:=by
 have q:=xq HE go (by rw[aaQ];rfl);rw[aaQ]at q;exact⟨q,_,es',ep+1,t',q,gx,rfl,T,gl,gb,gg,gv,gn⟩
theorem qcV{g:Bool->Sem Unit}(gw:∀(b:Bool)(s1:vC)(Q':ro),Q' () s1->vQ ap A (g b) Q' E s1){a:vF}{o:Obj}{es es1:mS}{ep:Nat}{t t2:SetTable}{led:Bool}{xs:af}(go:fN)(gx:o.ExactSet)(gd:de)(T:Tb t2 es1.size)(gl:t2.led=led)(gb:es1.size<ur)(gg:∀e∈es1.toList,zAH e)(gv:es1.toList.map Cm=xs)(gn:xs.Nodup){dm:Bool}{R:Option Bool->vC->Prop}(k:∀h' ys,xu a s.heap h'->zAu h' a led ys->ys.Perm xs->R Fy { s with heap:=h' }):
  vQ ap A (do
    storeSet a es1 t2
    if (!dm&&t2.tooFull)=true then do
      g (relayAll t2 es1 ky).2.2
      storeSet a (relayAll t2 es1 ky).1 (relayAll t2 es1 ky).2.1
      pure Fy
     else pure Fy) R E s:=by
 refine vA (wpAny_storeSet_of go gd ?_ (fits_of_scanBound gb));obtain⟨g1,S1⟩:=qbH go gx gd T gl gb gg gv gn;have sb:=Zq s.heap a (Obj.putSet es1 t2)
 split
 ·obtain⟨T2,l2,p2⟩:=qfE (t:=t2) (es:=es1) ky
  generalize relayAll t2 es1 ky=rl at T2 l2 p2 ⊢;obtain⟨es2,t3,gv2⟩:=rl
  dsimp only at T2 l2 p2 ⊢
  have hz:es2.size=es1.size:=by rw[<- zO,p2.length_eq,zO]
  have gb2:es2.size<ur:=by rw[hz];exact gb
  have pv:(es2.toList.map λe=>vI e.2).Perm xs:=by rw[<- gv];exact p2.map _
  refine vA (gw _ _ _ ?_);refine vA (wpAny_storeSet_of g1 rfl ?_ (fits_of_scanBound gb2));obtain⟨_,S2⟩:=qbH g1 gx rfl T2 (l2.trans gl) gb2 (λe he=>gg e (p2.mem_iff.mp he)) rfl (pv.nodup_iff.mpr gn);exact vG (k _ _ (sb.trans (Zq _ a _)) S2 pv)
 ·exact vG (k _ _ sb S1 (xm _))
theorem qk5{a:vF}{led:Bool}{xs:af}{x:Int}{tk:Tok}{Q:rP}(S:zAu s.heap a led xs)(room:xs.length+1<ur)(k:∀b h' ys,xu a s.heap h'->zAu h' a led ys->(x∈xs->ys=xs)->(x∉xs->ys.Perm O8)->Q b { s with heap:=h' }):
  vQ ap A (setAddHashed a (.int x tk) (rF x)) Q E s:=by
 obtain⟨o,es,ep,t,go,gx,gd,T,gl,gb,gg,gv,gn⟩:=id S;have hl:es.size=xs.length:=by rw[<- gv,zB,zO]
 have el:ElemsOf (tK prog w) es.toList:=qcG gg;unfold setAddHashed setAddHashedIn;refine vp (vA SW)
 dsimp only
 rw[byScan_of (knd:=tK prog w) (x:=.int x tk) rfl gb el];simp only[↓reduceIte];unfold setAddByScan;refine vA (vA (uK (vA (wpAny_setScan_of (knd:=tK prog w) (k:=x) Hm go gd T.fits el ?_))));cases q:List.findIdx? AY es.toList with
 | some j=>
  dsimp only
  have hx:x∈xs:=by rw[<- gv];exact qcL gg q
  refine vG gr;exact k false s.heap xs (YH a s.heap) S Gr λz=>vP hx z
 | none=>
  dsimp only
  have hx:x∉xs:=by rw[<- gv];exact qeP gg q
  obtain⟨d0,T1,l1,p1⟩:=qdZ (t:=t) (es:=es) (h:=rF x) (x:=.int x tk) T;generalize layNew t es (rF x) (.int x tk)=ly at d0 T1 l1 p1 ⊢;obtain⟨es1,t1,dm,gave⟩:=ly
  dsimp only at d0 T1 l1 p1 ⊢
  have gg1:∀e∈es1.toList,zAH e:=λe he=>by
   rcases zG.mp (p1.mem_iff.mp he)with rfl|he
   ·exact⟨x,tk,rfl⟩
   ·exact gg e he
  have pv:(es1.toList.map λe=>vI e.2).Perm O8:=by rw[<- gv];exact p1.map _
  have gn1:(es1.toList.map λe=>vI e.2).Nodup:=pv.nodup_iff.mpr (yx.mpr ⟨hx,gn⟩);have gb1:es1.size<ur:=by
   have:=pv.length_eq;rw[zB,zO,zJ]at this;omega
  have gw:∀(b:Bool)(s1:vC)(Q':ro),Q' () s1->vQ ap A (match b with|true=>rule "set.scan.the-table-gave-way" | false=>pure ()) Q' E s1 :=
   λb s1 Q' z=>by cases b <;> first|exact vG z|exact uK z
  refine vA (gw _ _ _ ?_);have fin:∀h' ys,xu a s.heap h'->zAu h' a led ys->ys.Perm (es1.toList.map λe=>vI e.2)->Q true { s with heap:=h' }:=λh' ys sb S' p=>k true h' ys sb S' (λz=>vP z hx) λ_=>p.trans pv
  split
  ·refine vA ?_
   rw[hashByValue_scannable 8 (x:=Value.int x tk) rfl];refine vG ?_;refine qcV (λb s1 Q' z=>by cases b <;> first|exact vG z|exact uK z) go gx gd T1 (l1.trans gl) gb1 gg1 rfl gn1 λh' ys sb S' p=>?_;exact vG UR
  ·refine vA gr
   simp only[↓reduceIte];refine qcV (λb s1 Q' z=>by cases b <;> first|exact vG z|exact uK z) go gx gd T1 (l1.trans gl) gb1 gg1 rfl gn1 λh' ys sb S' p=>?_;exact vG UR
end
def zCZ(h:vk)(S:vF)(led:Bool)(val:Nat->Int)(m:Nat):Prop:=∃xs,zAu h S led xs/\xs.length<=m/\∀x,x∈xs↔∃i,i<m/\val i=x
theorem zCZ.at{h h':vk}{a:vF}{led:Bool}{val:Nat->Int}{m:Nat}(S:zCZ h a led val m)(k:∀o,h.get? a=some o->h'.get? a=some o):zCZ h' a led val m:=by
 obtain⟨xs,q,r⟩:=S;exact⟨xs,q.at k,r⟩
section
variable{prog:vU}{w:vY}{A:vg}{R:sU->vC->Prop}{I:vF}{fp wr:List vF}{G:Array sC->Array sC->Prop}{n:Nat}{P:Nat->vB->Prop}{St:Nat->vC->Prop}
theorem zC6(W:WalksS prog w A.in1 I fp wr G n P St)(S:vF)(hS:S∉fp){led:Bool}(val:Nat->Int)(hv:∀i v,P i v->∃t,v=.int (val i) t)(hb:n+1<ur):
  ∀(k i:Nat)(s:vC),n-i=k->i<=n->St i s->zCZ s.heap S led val i->(∀s',Moved (S::wr) G s s'->zCZ s'.heap S led val n->R (.ok (.ret .none)) s') ->
   uj ap A (.builtin "set.update.loop" ⟨[hZ,CZ],[]⟩) R s:=by
 have hw:S∉wr:=λz=>hS (W.sub _ z);have hsub:∀b∈wr,b∈S::wr:=λb z=>zH _ z;intro k
 induction k with
 | zero=>
  intro i s hk hi st SV hR;have hin:i=n:=∅
  subst hin;refine uQ PyProof.Rows.F.entry_set_update_loop ?_;rw[Ad];show vQ _ A.in1 (ub CZ >>= _) _ _ s;refine vA (W.done s _ _ st λs' hm=>?_);show vQ _ A.in1 abH _ _ s';exact vG (hR s' (hm.mono hsub) (SV.at λo e=>hm.heap S o hw e))
 | succ k ih=>
  intro i s hk hi st SV hR;have hlt:i<n:=∅
  refine uQ PyProof.Rows.F.entry_set_update_loop ?_;rw[Ad];show vQ _ A.in1 (ub CZ >>= _) _ _ s;refine vA (W.item i s _ _ hlt st λv s1 hP st1 hm=>?_);obtain⟨t,rfl⟩:=hv i v hP;obtain⟨xs,S1,hl,hx⟩:=SV.at (h':=s1.heap) λo e=>hm.heap S o hw e;show vQ _ A.in1 (holding [Value.int (val i) t] (setAdd S (.int (val i) t)) >>= _) _ _ s1;refine vA GT;unfold setAdd;refine vp ?_;refine vA ((tK prog w).pyHash (k:=val i) Hm ?_);refine qk5 (s:={ s1 with toks:=s1.toks+1 }) (x:=val i) S1 ∅ λb h' ys sb S2 y1 y2=>?_;have SV2:zCZ h' S led val (i+1):=by
   refine⟨ys,S2,?_,λx=>?_⟩
   ·by_cases z:val i∈xs
    ·rw[y1 z];omega
    ·rw[(y2 z).length_eq,zJ];omega
   ·by_cases z:val i∈xs
    ·rw[y1 z,hx]
     refine⟨λ⟨j,h1,h2⟩=>GJ,λ⟨j,h1,h2⟩=>?_⟩
     by_cases e:j=i
     ·subst e;exact(hx x).mp (by rw[<- h2];exact z)
     ·exact GJ
    ·rw[(y2 z).mem_iff,zG,hx]
     refine⟨λh=>?_,λ⟨j,h1,h2⟩=>?_⟩
     ·rcases h with h|⟨j,h1,h2⟩
      ·exact⟨i,∅,h.symm⟩
      ·exact GJ
     ·by_cases e:j=i
      ·subst e;exact .inl h2.symm
      ·exact .inr GJ
  refine vG ⟨uV PyProof.Rows.F.plain_set_update_loop _,ih (i+1) _ ∅ hlt (W.frame _ s1 _ _ st1 OF λb z o e=>?_) SV2 λs2 hm2 S3=>?_⟩
  ·rw[sb.2 b (λy:b=S=>hS (by rw[<- y];exact z))];exact e
  ·refine hR s2 (Moved.trans W.gtrans ((hm.mono hsub).then_heap OF λb o z e=>?_) hm2) S3
   rw[sb.2 b (λy:b=S=>z (by rw[y];exact zF))];exact e
end
noncomputable abbrev X7(w:vY):Bool:=!w.params.followText "set-order"
section
variable{prog:vU}{w:vY}{A:vg}{E:vB->vC->Prop}{s:vC}
theorem qhW(a:vB){Q1:aQ}(h:Q1 aL { s with heap:=s.heap.push { cls:=.type "set", data:=.set #[] 0 gj } }):
  uj ap A (.call (.builtin "set.__new__") Md) (wants Q1 E) s:=by
 refine codeAny_of_tree ?_;show vQ _ A.in1 (checkBuiltinCall "set.__new__" Md >>= λ_=>again (.builtin "set.__new__" Md)) _ _ s;refine vA (rB (PySem.F.newCall_set_1 a) (vG ⟨uV PySem.F.plain_set_new _,uQ PySem.F.entry_set_new ?_⟩));rw[Around.under_plainId PySem.F.plain_set_new _];unfold Builtin.«set.__new__» Builtin.Frozenset.newClass;have p1:=sub_set_self;obtain⟨hp,g,d,tk,os⟩:=s
 dsimp only
 wp_walk
 refine tZ gr
 dsimp only
 simp only[newObj];refine vA (wpAny_alloc gr);exact vG h
set_option maxHeartbeats 3200000 in
theorem qag{l:vF}{items:dI}{ns:af}{Q:aQ}(hh:db)(il:FC)(ia:uI items.toList ns)(hb:items.size+1<ur)(k:∀(h':vk)(tk:Nat),zCZ h' s.heap.objs.size Sd iU items.size->(∀b o,b<s.heap.objs.size->s.heap.get? b=some o->h'.get? b=some o)->Q aL { s with heap:=h',toks:=tk }):
  vQ ap A (call nH [cM]) Q E s:=by
 obtain⟨c,tl,c1⟩:=PySem.F.called_set.mro;have c2:=PySem.F.called_set.made;have c3:=PySem.F.called_set.sub;refine wpAny_call (codeAny_of_tree ?_);show vQ _ _ (callAny nH _) _ _ _;refine vG ⟨Code.quiet_builtin _ ⋯,uQ PySem.F.entry_type_call ?_⟩;rw[Around.under_plain (weight_type_call_type "set" [cM] []) rfl];have c4:=PySem.F.called_set.notType;have c5:=PySem.F.called_set.canCreate;have c6:=PySem.F.typeCall_set_1 cM
 repeat (any_goals (first|assumption|wp_step))
 refine uo (qhW cM (E:=E) (Q1:=λobj s1=>obj=.ref s.heap.objs.size/\s1={ s with heap:=s.heap.push { cls:=.type "set", data:=.set #[] 0 gj } }) dg) λr s1 hr=>?_;cases r with
 | error e=>exact hr
 | ok fl=>
  cases fl with
  | ret obj=>
   obtain⟨rfl,rfl⟩:=hr;have hS:(s.heap.push { cls:=.type "set", data:=.set #[] 0 gj }).get? s.heap.objs.size=some { cls:=.type "set", data:=.set #[] 0 gj }:=zU _ rfl;have hT:Shared.TypeIs { s with heap:=s.heap.push { cls:=.type "set", data:=.set #[] 0 gj } } aL "set" := ⟨_,hS,rfl⟩;have c7:=PySem.F.called_set.init.lookup;have c8:=PySem.F.called_set.init.bind aL
   repeat (any_goals (first|assumption|wp_step))
   refine uo (codeAny_call_builtin (R:=wants (λr s2=>r=.none/\∃h' tk,s2={ s with heap:=h',toks:=tk }/\zCZ h' s.heap.objs.size Sd iU items.size /\
     (∀b o,b<s.heap.objs.size->s.heap.get? b=some o->h'.get? b=some o)) E) PySem.F.called_set.init.plain PySem.F.entry_set_init (check_set_init_1 hT ?_)) λr2 s2 hr2=>?_
   ·obtain⟨ol,e1,e2,nl,e3⟩:=il
    obtain⟨ocls,odict,odata,oslots⟩:=ol;simp only at e2 e3;subst e2;subst e3;have e1':(s.heap.push { cls:=.type "set", data:=.set #[] 0 gj }).get? l=some { cls:=.type "list", dict:=odict,data:=.seq items nl,slots:=oslots }:=zE _ e1;have d1:=PySem.F.sub_list_set;have d2:=PySem.F.sub_list_frozenset;have d3:(Value.type "list" == Value.type "dict")=false:=by decide
    have il1:(s.heap.push { cls:=.type "set", data:=.set #[] 0 gj }).IsList l items:=⟨_,e1',rfl,nl,rfl⟩;unfold Builtin.«set.__init__» noKeywords Builtin.Frozenset.updateFrom;generalize hPI:rH=PI
    wp_walk
    subst hPI;refine u5 il1 ?_;refine vA (wpAny_runValue ?_);have lS:l<s.heap.objs.size:=zN e1;have h3:A.in1.in1.in1.handled=none:=by simp[hh]
    have nI:l≠(s.heap.push { cls:=.type "set", data:=.set #[] 0 gj }).objs.size:=by rw[yo];exact zy (yX lS)
    have nS:s.heap.objs.size∉[(s.heap.push { cls:=.type "set", data:=.set #[] 0 gj }).objs.size,l]:=by
     rw[yo];simp only[zG,zR,zj,or_false,not_or];exact⟨zy Vs,wL lS⟩
    have hv:∀(i:Nat)(v:vB),items[i]?=some v->∃t,v=.int ((λi=>ns.getD i 0) i) t:=λi v z=>IntsAre.int_at ia i v (by rw[zd];exact z);refine zC6 ((Walks.list h3 _ l nI items).toS) s.heap.objs.size nS (led:=X7 w) iU hv hb (items.size-0) 0 _ ∅ pB ⟨oX,(il1.push _)⟩ ?S0 ?RR
    case S0=>
     refine⟨[],⟨_,#[],0,.fresh 0 0 Sd,zE _ hS,KN,rfl,⟨rfl,xU,rfl⟩,rfl,by show 0<ur;decide,λe z=>by simp at z,rfl,xQ⟩,bX,λx=>⟨λz=>(by cases z),λ⟨i,z,_⟩=>vP z Vv⟩⟩
    case RR=>
     intro s' hm S';obtain⟨h',g',d',tk',os'⟩:=s';have eg:g'=s.gens:=hm.gens;have ed:d'=s.drawn:=hm.drawn;have eos:os'=s.os:=hm.os;subst eg;subst ed;subst eos;show vQ _ _ _ _ _ _;refine vG ?_;show vQ _ _ abH _ _ _;refine vG ⟨rfl,h',tk',rfl,S',λb o z y=>?_⟩;refine hm.heap b o ?_ (zE _ (zE _ y));simp only[zG,zR,zj,or_false,not_or];exact⟨zy z,by rw[yo];exact zy (yX z)⟩
   ·cases r2 with
    | error e=>exact hr2
    | ok fl2=>
     cases fl2 with
     | ret r=>
      obtain⟨rfl,h',tk,rfl,S',kp⟩:=hr2
      repeat (any_goals (first|assumption|wp_step))
      exact k _ _ S' kp
     | next=>exact hr2.elim
     | brk=>exact hr2.elim
     | cont=>exact hr2.elim
  | next=>exact hr.elim
  | brk=>exact hr.elim
  | cont=>exact hr.elim
end
end Hk
namespace PySem.F
theorem slotSetNext:Slot "set_iterator" "__next__" "set_iterator.__next__" := .of (owner := "set_iterator") (n := "__next__") (by rw[uR,uE];kernel_rfl) ⋯ ⋯ ⋯ (by first|exact .inl ⋯|exact .inr ⋯) (by rw[u6];kernel_rfl)
theorem slotSetIt:Slot "set_iterator" "__iter__" "set_iterator.__iter__" := .of (owner := "set_iterator") (n := "__iter__") (by rw[uR,uE];kernel_rfl) ⋯ ⋯ ⋯ (by first|exact .inl ⋯|exact .inr ⋯) (by rw[u6];kernel_rfl)
theorem zBI:Manifest.owners.lookup (String.ofList ['r','o','t','a','r','e','t','i','_','t','e','s'].reverse)=some Manifest.sig_set_iterator:=by kernel_rfl
theorem argsSetNext(a:vB):rJ "set_iterator.__next__" SG:=by
 unfold rJ;rw[signature?_of (id := "set_iterator.__next__") (n:=['_','_','t','x','e','n','_','_']) (o:=['r','o','t','a','r','e','t','i','_','t','e','s']) (by kernel_rfl) zBI]
 kernel_rfl
theorem argsSetIt(a:vB):rJ "set_iterator.__iter__" SG:=by
 unfold rJ;rw[signature?_of (id := "set_iterator.__iter__") (n:=['_','_','r','e','t','i','_','_']) (o:=['r','o','t','a','r','e','t','i','_','t','e','s']) (by kernel_rfl) zBI]
 kernel_rfl
theorem entSetNext:entryFor table "set_iterator.__next__" = some Builtin.«set_iterator.__next__»:=entryFor_of_tree (by kernel_rfl)
theorem entSetIter:entryFor table "set.__iter__" = some Builtin.«frozenset.__iter__»:=entryFor_alias (id' := "frozenset.__iter__") (by kernel_rfl) rfl ⋯ (by kernel_rfl)
theorem entSetIt:entryFor table "set_iterator.__iter__" = some Builtin.«dict_keyiterator.__iter__»:=entryFor_alias (id' := "dict_keyiterator.__iter__") (by kernel_rfl) rfl ⋯ (by kernel_rfl)
end PySem.F
namespace Hk
open PySem PySem.Spec PyProof.Rows
section
variable{prog:vU}{w:vY}{A:vg}{E:vB->vC->Prop}{s:vC}
theorem q4n{α:Type}:∀(l:bH)(k:Nat)(h:k<l.length),(l[k]::l.eraseIdx k).Perm l
 | a::r,0,_=>xm _
 | a::r,k+1,h=>by
  have h':k<r.length:=by simpa using h
  show (r[k]::a::r.eraseIdx k).Perm (a::r);exact(List.Perm.swap a r[k] _).trans ((q4n r k h').cons a)
theorem qbY{α:Type}(next:Nat->Nat):∀(fuel k:Nat)(left:bH)(out:Array α),left.length=fuel->(pickOrder.go next fuel k left out).toList.Perm (out.toList++left)
 | 0,k,left,out,h=>by
  have e:left=[]:=ym h;subst e;unfold pickOrder.go;rw[zx]
 | fuel+1,k,left,out,h=>by
  unfold pickOrder.go;have hlt:next k%left.length<left.length:=Nat.mod_lt _ ∅
  rw[oZ]
  dsimp only
  refine(qbY next fuel (k+1) _ _ (by rw[ZB hlt,h];rfl)).trans ?_;rw[ZM,zM];exact yS _ (q4n left _ hlt)
theorem qeo{α:Type}(next:Nat->Nat)(xs:Array α):(tD next xs).toList.Perm xs.toList:=by
 have:=qbY next xs.size 0 xs.toList #[] (by simp)
 simpa [tD]using this
theorem qdu{M:Model}{src:Source}{n:Nat}{Q:Nat->vC->Prop}(hn:n≠0)(h:Q (M.w.draws src (s.drawn.get src)%n) { s with drawn:=s.drawn.bump src }):vQ M A (choose src n) Q E s:=λ_ _ _=>⟨hn,h⟩
theorem q51{M:Model}{α:Type}:∀(n:Nat)(xs:bH)(s:vC)(Q:List α->vC->Prop),xs.length=n->(∀ys d,ys.Perm xs->Q ys { s with drawn:=d })->vQ M A (drawOrder n xs) Q E s
 | 0,xs,s,Q,hl,h=>by
  have e:xs=[]:=ym hl;subst e;exact vG (h [] s.drawn (xm _))
 | n+1,[],s,Q,hl,h=>by cases hl
 | n+1,x::r,s,Q,hl,h=>by
  unfold drawOrder;refine vA (qdu (by simp) ?_);generalize hk:M.w.draws Source.order (s.drawn.get Source.order)%(x::r).length=k;have hlt:k<(x::r).length:=by rw[<- hk];exact Nat.mod_lt _ (by simp)
  rw[oZ]
  dsimp only
  have hl2:((x::r).eraseIdx k).length=n:=by rw[ZB hlt,hl];rfl
  refine vA (q51 n _ _ _ hl2 λys d p=>vG (h _ d ?_));refine xG (p.cons _) ?_;exact q4n _ k hlt
end
noncomputable abbrev Wc(f:vB)(i:Nat)(a:vF)(n ep:Nat):Obj:={ cls:=.type "set_iterator", data:=.fields #[f,.int i 0,dH,.int n 0,.int ep 0] }
section
variable{prog:vU}{w:vY}{A:vg}{E:vB->vC->Prop}{s:vC}
theorem q1J{a:vF}{o:Obj}{es:mS}{ep:Nat}{t:SetTable}{Q:ab6}(go:fN)(gd:de)(gf:eS)(h:Q es s):vQ ap A (setEntries a) Q E s:=by
 unfold setEntries;exact vA (uF go gd gf (vG h))
theorem qe4{it a:vF}{slot i n ep:Nat}{o:Obj}{es:mS}{t:SetTable}{x:vB}{nxt:Nat}{Q:iz}(e:CS)(go:fN)(gd:de)(gf:eS)(hn:R4)(hnext:∀A' Q' E',Q' (some (x,nxt)) s->vQ ap A' Di Q' E' s)(k:∀h',h'.get? it=some (Wc (.int nxt 0) (i+1) a n ep)->xu it s.heap h'->Q (some x) { s with heap:=h' }):
  vQ ap A acx Q E s:=by
 have hT:s.TypeIs jj "set_iterator" := fR;unfold ub;refine vA aX;unfold Builtin.«set_iterator.__next__»;refine vA (m:=si "__next__" 0 Jk) gr;refine vA Id
 dsimp only
 refine vA Cb;rw[vJ (by rw[hn];simp)];simp only[yk];refine vA abO
 dsimp only
 refine vA (uL e (by simp) λh1 e1 sb1=>?_);refine vA (uL (s:={ s with heap:=h1 }) e1 (by simp) λh2 e2 sb2=>?_);refine vG ⟨_,rfl,vG (k h2 ?_ (sb1.trans sb2))⟩;rw[e2];simp[uf]
theorem qds{it a:vF}{slot i n ep:Nat}{o:Obj}{es:mS}{t:SetTable}{Q:iz}(hh:db)(e:CS)(go:fN)(gd:de)(gf:eS)(hn:R4)(hnext:∀A' Q' E',Q' none s->vQ ap A' Di Q' E' s)(k:∀h',Heap.ExtBut it s.heap h'->Q none { s with heap:=h' }):
  vQ ap A acx Q E s:=by
 have hT:s.TypeIs jj "set_iterator" := fR;unfold ub;refine vA aX;unfold Builtin.«set_iterator.__next__»;refine vA (m:=si "__next__" 0 Jk) gr;refine vA Id
 dsimp only
 refine vA Cb;rw[vJ (by rw[hn];simp)];simp only[yk];refine vA abO
 dsimp only
 refine vA (uL e (by simp) λh1 e1 sb1=>?_);show vQ _ _ (newExc Qw [] >>= λx=>rK x) _ _ _;refine vA ?_;simp only[newExc,newTuple];refine vA (vq ?_ (by size_fits));refine vA (m:=tS _ _) (rB (a:=Value.none) (by first|rfl|(simp only[tS];rfl)) ?_);refine vq ?_ (by size_fits);simp only[rK];refine vA Vy;rw[show A.in1.handled=none from hh];refine vA RN;refine vA (ud (T := "StopIteration") (b:=true) OW tT ?_);exact vG (k _ ((sb1.extBut.push _).push _))
end
section
variable{prog:vU}{w:vY}{A:vg}{E:vB->vC->Prop}{s:vC}
theorem q3H{Q:rP}(h:Q (w.params.followText "set-order") s):vQ ap A setsByText Q E s:=by
 unfold setsByText;exact vA (tZ (vG h))
theorem q6M{a:vF}{o:Obj}{es:mS}{ep:Nat}{t:SetTable}{slot i:Nat}{r:Option (vB×Nat)}{Q:PL}(go:fN)(gd:de)(gf:eS)(hB:w.params.followText "set-order" = false)(hl:t.led=true)(hd:(!t.plain&&decide (es.size>1))=false)(hr:(match es[Bx]?,t.place[Bx]? with|some (_,x),some j=>some (x,j+1)|_,_=>none)=r)(h:Q r s):vQ ap A Di Q E s:=by
 unfold tN;refine vA Dh
 dsimp only
 refine vA (q3H ?_);rw[hB];refine vi (λz=>vP z (by decide)) eW;refine vi (λz=>vP ((show (!t.plain&&decide (es.size>1))=true from z).symm.trans hd) (by decide)) eW;refine vA ?_;refine vi Fq eW
 ·have z':(!t.led && !es.isEmpty)=true:=z
  rw[hl]at z';exact vP z' (by simp)
 ·refine vG ?_
  refine vG ?_;rw[<- hr]at h;exact h
theorem qdi{a:vF}{o:Obj}{es:mS}{ep:Nat}{t:SetTable}{Q:ab6}(go:fN)(gd:de)(gf:eS)(hB:GR)(h:Q (tD gE es) s):vQ ap A (setWalk a) Q E s:=by
 unfold setWalk;refine vA Dh
 dsimp only
 refine vA (q3H ?_);rw[hB];refine vi eW acl;exact vA (tZ (vG h))
theorem q7Z{a:vF}{o:Obj}{es:mS}{ep:Nat}{t:SetTable}{slot i:Nat}{Q:PL}(go:fN)(gd:de)(gf:eS)(hB:GR)(h:Q (((tD gE es)[i]?).map λe=>(e.2,slot)) s):vQ ap A Di Q E s:=by
 unfold tN;refine vA Dh
 dsimp only
 refine vA (q3H ?_);rw[hB];refine vi eW acl;refine vi (λz=>vP z (by simp)) eW;exact vA (qdi go gd gf hB (vG h))
theorem qbP{it:vF}{f:vB}{i:Nat}{a:vF}{n ep:Nat}{Q:aQ}(e:s.heap.get? it=some (Wc f i a n ep))(h:Q jj s):vQ ap A (rH jj) Q E s:=by
 have hT:s.TypeIs jj "set_iterator" := fR;refine wpAny_pyIter_slot hT F.slotSetIt (vt F.slotSetIt hT F.entSetIt ?_ (F.argsSetIt _));show vQ _ _ (ret jj) _ _ s;exact vG ⟨_,rfl, "set_iterator", _,hT,F.slotSetNext.lookup,h⟩
theorem qck(hh:db){I a:vF}(hne:a≠I){o:Obj}{es:mS}{ep:Nat}{t:SetTable}(gd:de)(gf:eS)(slot:Nat->Nat)(val:Nat->vB)(hn:∀(i:Nat)(s:vC),i<es.size->s.heap.get? a=some o->∀A' Q' E',Q' (some (val i,slot (i+1))) s->vQ ap A' S4 Q' E' s)(hz:∀(s:vC),s.heap.get? a=some o->∀A' Q' E',Q' none s->vQ ap A' JO Q' E' s):
  Walks prog w A I [I,a] [I] es.size abn (λi h=>h.get? I=some GC/\h.get? a=some o) where
 sub:=λb hb=>by simp at hb;simp[hb]
 frame:=λ_ _ _ st hk=>⟨hk I (by simp) _ st.1,hk a (by simp) _ st.2⟩
 item:=λi s Q E hi st hQ=>by
  refine qe4 st.1 st.2 gd gf rfl (hn i s hi st.2) λh' e' sb=>?_;exact hQ _ h' s.toks rfl ⟨e',sb.extBut a o hne st.2⟩ λb u hb e=>sb.extBut b u (λz=>hb (by simp[z])) e
 done:=λs Q E st hQ=>qds hh st.1 st.2 gd gf rfl (hz s st.2) λh' eb=>hQ h' s.toks λb u hb e=>eb b u (λz=>hb (by simp[z])) e
 self:=λ_ _ _ _ st hQ=>qbP st.1 hQ
theorem qcE{it a tp:vF}{i n ep p:Nat}{o:Obj}{es:mS}{t:SetTable}{x:dy}{ps:dI}{ot:Obj}{nt:Nat}{Q:iz}(e:Ey)(go:fN)(gd:de)(gf:eS)(hn:R4)(gt:S8)(gtd:abK)(hp:ps[i]?=some (.int p 0))(hx:es[p]?=some x)(k:∀h',h'.get? it=some (Wc adA (i+1) a n ep)->xu it s.heap h'->Q (some x.2) { s with heap:=h' }):
  vQ ap A acx Q E s:=by
 have hT:s.TypeIs jj "set_iterator" := fR;unfold ub;refine vA aX;unfold Builtin.«set_iterator.__next__»;refine vA (m:=si "__next__" 0 Jk) gr;refine vA Id
 dsimp only
 refine vA Cb;rw[vJ (by rw[hn];simp)];refine vA adZ
 dsimp only
 simp only[yk];rw[hp]
 dsimp only
 unfold setNextDrawn;refine vA (vA Dh)
 dsimp only
 refine vi (λz=>vP z (by simp)) eW;simp only[yk];rw[hx];refine vG ?_;refine vA (uL e (by simp) λh1 e1 sb1=>?_);refine vG ⟨_,rfl,vG (k h1 ?_ sb1)⟩;rw[e1];simp[uf]
theorem qcD{it a tp:vF}{i n ep:Nat}{o:Obj}{es:mS}{t:SetTable}{ps:dI}{ot:Obj}{nt:Nat}{Q:iz}(hh:db)(e:Ey)(go:fN)(gd:de)(gf:eS)(hn:R4)(gt:S8)(gtd:abK)(hp:ps[i]?=none)(k:∀h',Heap.ExtBut it s.heap h'->Q none { s with heap:=h' }):
  vQ ap A acx Q E s:=by
 have hT:s.TypeIs jj "set_iterator" := fR;unfold ub;refine vA aX;unfold Builtin.«set_iterator.__next__»;refine vA (m:=si "__next__" 0 Jk) gr;refine vA Id
 dsimp only
 refine vA Cb;rw[vJ (by rw[hn];simp)];refine vA adZ
 dsimp only
 simp only[yk];rw[hp]
 dsimp only
 refine vA (uL e (by simp) λh1 e1 sb1=>?_);refine vA (uL (s:={ s with heap:=h1 }) e1 (by simp) λh2 e2 sb2=>?_);show vQ _ _ (newExc Qw [] >>= λx=>rK x) _ _ _;refine vA ?_;simp only[newExc,newTuple];refine vA (vq ?_ (by size_fits));refine vA (m:=tS _ _) (rB (a:=Value.none) (by first|rfl|(simp only[tS];rfl)) ?_);refine vq ?_ (by size_fits);simp only[rK];refine vA Vy;rw[show A.in1.handled=none from hh];refine vA RN;refine vA (ud (T := "StopIteration") (b:=true) OW tT ?_);exact vG (k _ (((sb1.trans sb2).extBut.push _).push _))
theorem qa9(hh:db){I a tp:vF}(hne:a≠I)(htp:tp≠I){o:Obj}{es:mS}{ep:Nat}{t:SetTable}(gd:de)(gf:eS){ot:Obj}{nt:Nat}(ord:cP)(hp:ord.Perm QO)(gtd:ot.data=.seq (ord.map λ(i:Nat)=>uf i).toArray nt):
  Walks prog w A I [I,a,tp] [I] es.size (λi v=>∃p x,ord[i]?=some p/\es[p]?=some x/\v=x.2) (λi h=>h.get? I=some (Wc adA i a es.size ep)/\h.get? a=some o/\h.get? tp=some ot) where
 sub:=λb hb=>by simp at hb;simp[hb]
 frame:=λ_ _ _ st hk=>⟨hk I (by simp) _ st.1,hk a (by simp) _ st.2.1,hk tp (by simp) _ st.2.2⟩
 item:=λi s Q E hi st hQ=>by
  have hl:ord.length=es.size:=by rw[hp.length_eq,yC]
  have ho:ord[i]?=some (ord[i]'∅):=zA _;have hlt:ord[i]'∅<es.size:=xC.mp (hp.mem_iff.mp (yZ _));refine qcE (p:=ord[i]'∅) (x:=es[ord[i]'∅]) st.1 st.2.1 gd gf rfl st.2.2 gtd (by simp[uf,ho]) (by simp[hlt]) λh' e' sb=>?_;exact hQ _ h' s.toks ⟨_,_,ho,by simp[hlt],rfl⟩ ⟨e',sb.extBut a o hne st.2.1,sb.extBut tp ot htp st.2.2⟩ λb u hb e=>sb.extBut b u (λz=>hb (by simp[z])) e
 done:=λs Q E st hQ=>qcD hh st.1 st.2.1 gd gf rfl st.2.2 gtd (by simp[hp.length_eq]) λh' eb=>hQ h' s.toks λb u hb e=>eb b u (λz=>hb (by simp[z])) e
 self:=λ_ _ _ _ st hQ=>qbP st.1 hQ
end
end Hk
namespace PySem.F
theorem slotSetLen:u9 nH "__len__" = pure (some (.builtin "set.__len__")):=by rw[uR,uE];kernel_rfl
theorem slotSetIter:Slot "set" "__iter__" "set.__iter__" := .of (owner := "set") (n := "__iter__") (by rw[uR,uE];kernel_rfl) ⋯ ⋯ ⋯ (by first|exact .inl ⋯|exact .inr ⋯) (by rw[u6];kernel_rfl)
theorem argsSetIter(a:vB):rJ "set.__iter__" SG:=by
 unfold rJ;kernel_rfl
end PySem.F
namespace Hk
open PySem PySem.Spec PyProof.Rows
noncomputable def slotAt(xs:EJ):Nat->Nat
 | 0=>0
 | i+1=>xs.toList.getD i 0+1
theorem q6W{xs:EJ}(h:zBc xs):∀i,i<=xs.size->SetTable.below xs (slotAt xs i)=i:=by
 intro i hi;obtain⟨h1,h2,h3⟩:=q9X h (slotAt xs i);have hz:xs.toList.length=xs.size:=zO;cases i with
 | zero=>
  rcases Nat.eq_zero_or_pos (SetTable.below xs (slotAt xs 0))with z|z
  ·exact z
  ·exact vP (h2 0 ∅ z) Vv
 | succ i=>
  have hlt:i<xs.toList.length:=∅
  have e:slotAt xs (i+1)=xs.toList[i]+1:=by
   show xs.toList.getD i 0+1=_;rw[zX,oZ];rfl
  rw[e]at h2 h3 h1 ⊢;generalize SetTable.below xs (xs.toList[i]+1)=b at h1 h2 h3 ⊢;have a1:i<b:=by
   rcases zz i b with z|z
   ·exact z
   ·have:=h3 i hlt z;omega
  have a2:b<=i+1:=by
   rcases zz (i+1) b with z|z
   ·have y:=h2 (i+1) ∅ z
    have y':=q5z h hlt (show i+1<xs.toList.length by omega) (yj i);omega
   ·exact z
  omega
theorem qew{val:Nat->vB}{n:Nat}{acc:dI}(h:ItemsOf abn acc n):acc.toList=(zo n).map val:=by
 apply yt;intro i;rw[zd,zP];rcases zz i n with z|z
 ·rw[wB z]
  have hz:i<acc.size:=by rw[h.1];exact z
  have:acc[i]?=some acc[i]:=yD hz;rw[this,h.2 i _ this];rfl
 ·rw[zu (by rw[yC];exact z),yn (by rw[h.1];exact z)];rfl
theorem q7J:∀{l:L3},(∀e∈l,zAH e)->uI (l.map (·.2)) (l.map λe=>vI e.2)
 | [],_=>.nil
 | e::r,h=>by
  obtain⟨x,t,rfl⟩:=h e zF;exact .cons _ _ (q7J λe he=>h e KW)
section
variable{prog:vU}{w:vY}{A:vg}{E:vB->vC->Prop}{s:vC}
theorem qfP{r:vF}{Q:rP}(hT:s.TypeIs (.ref r) "set")(h:Q false s):vQ ap A Gh Q E s:=by
 unfold Builtin.List.listLengthHint;refine vA (ui hT F.slotSetLen ?_);generalize hid:("set.__len__" : String)=id0
 wp_delta
 rw[show splitId id0=some ("set", "__len__")from by subst hid;decide +kernel];subst hid;refine vA (ud (T := "set") (b:=true) hT (by rw[u6];kernel_rfl) ?_);refine vi (λhab=>vP hab (by decide)) eW;refine vi eW UA;refine vA (uq hT ?_);exact vG h
theorem qga{a:vF}{xs:af}{Q:aQ}(S:pS)(k:∀(h':vk)(d:sy)(I:vF)(fp:cX)(P:Nat->vB->Prop)(St:Nat->vk->Prop),(∀b o,s.heap.get? b=some o->h'.get? b=some o)->s.heap.objs.size<=I->(∀b∈fp,b=a\/s.heap.objs.size<=b) ->
   (∀A:vg,A.handled=none->Walks prog w A I fp [I] xs.length P St)->St 0 h'->(∀acc:Array vB,ItemsOf P acc xs.length->∃ys,uI acc.toList ys/\ys.Perm xs)->(∀b∈fp,b<h'.objs.size)->Q CZ { s with heap:=h',drawn:=d }) :
  vQ ap A (rH dH) Q E s:=by
 obtain⟨o,es,ep,t,go,gx,gd,T,gl,gb,gg,gv,gn⟩:=id S;have hl:es.size=xs.length:=by rw[<- gv,zB,zO]
 have hlt:a<s.heap.objs.size:=zN go;have hps:t.place.size=es.size:=by
  have:=T.fits;unfold SetTable.fits at this;simp only[yP,beq_iff_eq]at this;exact this.1
 have hT:s.TypeIs dH "set" := ⟨o,go,gx.1⟩;refine wpAny_pyIter_slot hT F.slotSetIter (vt F.slotSetIter hT F.entSetIter ?_ (F.argsSetIter _));unfold Builtin.«frozenset.__iter__» Builtin.Frozenset.slot0 Builtin.Frozenset.sizeOf;refine vA ?_;refine vA (m:=si "__iter__" 0 AB) gr;show vQ _ _ (pure a) _ _ s;refine vG ?_;refine vA (vA (q1J go gd T.fits gr));refine vA ?_;unfold setDrawn;refine vA SW
 dsimp only
 refine vA (q3H gr);have perm_ok:∀(l:L3),l.Perm es.toList->∃ys,uI (l.map (·.2)) ys/\ys.Perm xs:=λl p=>
  ⟨_,q7J λe he=>gg e (p.mem_iff.mp he),by rw[<- gv];exact p.map _⟩
 have slots:∀(slot:Nat->Nat)(l:L3),slot 0=0->l.Perm es.toList ->
   (∀(i:Nat)(s:vC),i<es.size->s.heap.get? a=some o->∀A' Q' E',Q' (some ((l.map (·.2)).getD i .none,slot (i+1))) s->vQ ap A' S4 Q' E' s) ->
   (∀(s:vC),s.heap.get? a=some o->∀A' Q' E',Q' none s->vQ ap A' JO Q' E' s) ->
   Q aL { s with heap:=s.heap.push EG }:=λslot l h0 p hn hz=>by
  have:=k (s.heap.push EG) s.drawn s.heap.objs.size [s.heap.objs.size,a] (λi v=>v=(l.map (·.2)).getD i .none) (λi h=>h.get? s.heap.objs.size=some GC/\h.get? a=some o)
   (λb u e=>zE _ e) bX (λb hb=>by
    simp only[zG,zj,or_false]at hb;rcases hb with rfl|rfl
    ·exact .inr bX
    ·exact .inl rfl) (λA hh=>by rw[<- hl];exact qck hh Nr gd T.fits slot _ hn hz) ⟨jt,zE _ go⟩ (λacc hacc=>by
    rw[qew hacc];obtain⟨ys,y1,y2⟩:=perm_ok l p;have e:(zo xs.length).map (λi=>(l.map (·.2)).getD i .none)=l.map (·.2):=by
     apply yt;intro i;have hll:l.length=xs.length:=by rw[p.length_eq,zO,hl]
     rw[zP];rcases zz i xs.length with z|z
     ·rw[wB z]
      show some ((l.map (·.2)).getD i .none)=_;rw[zX,zA (by rw[zB,hll];exact z)];rfl
     ·rw[zu (by rw[yC];exact z),zu (by rw[zB,hll];exact z)];rfl
    rw[e];exact⟨ys,y1,y2⟩) (λb hb=>by
    rw[yo];simp only[zG,zj,or_false]at hb;rcases hb with rfl|rfl
    ·exact yj _
    ·exact yX hlt)
  exact this
 have getD_at:∀(l:L3)(i:Nat)(e:dy),l[i]?=some e->(l.map (·.2)).getD i .none=e.2:=λl i e h=>by
  rw[zX,zP,h];rfl
 cases hB:w.params.followText "set-order" with
 | true=>
  refine vA gr;refine vA ?_;unfold setEpoch;refine vA SU;refine vA dJ;have pp:=qeo gE es;have hpl:(tD gE es).size=es.size:=by rw[<- zO,pp.length_eq,zO]
  refine slots (λ_=>0) _ rfl pp LD λs go' A' Q' E' q=>?_
  ·refine q7Z go' gd T.fits hB ?_
   have hz:i<(tD gE es).size:=by rw[hpl];exact hi
   rw[yD hz];have:=getD_at (tD gE es).toList i (tD gE es)[i] (by rw[zd,yD hz]);rw[this]at q;exact q
  ·refine q7Z go' gd T.fits hB ?_
   rw[yn (by rw[hpl];exact zL _)];exact q
 | false=>
  have led:t.led=true:=by rw[gl];unfold X7;rw[hB];rfl
  cases hD:(!t.plain&&decide (es.size>1))with
  | false=>
   refine vi (λz=>vP ((show (!false&&(!t.plain&&decide (es.size>1)))=true from z)) (by rw[hD];decide)) eW;refine vA gr;refine vA ?_;unfold setEpoch;refine vA SU;refine vA dJ;refine slots (slotAt t.place) es.toList rfl (xm _) LD λs go' A' Q' E' q=>?_
   ·refine q6M go' gd T.fits hB led hD rfl ?_
    rw[q6W T.rise i ∅,yD hi,yD (show i<t.place.size by omega)];have:=getD_at es.toList i es[i] (by rw[zd,yD hi]);rw[this]at q;have e2:slotAt t.place (i+1)=t.place[i]'∅+1:=by
     show t.place.toList.getD i 0+1=_;rw[zX,zd,yD (show i<t.place.size by omega)];rfl
    rw[e2]at q;exact q
   ·refine q6M go' gd T.fits hB led hD rfl ?_
    rw[q6W T.rise es.size ∅,yn bX];exact q
  | true=>
   refine vi eW (λz=>vP (show (!false&&(!t.plain&&decide (es.size>1)))=true by rw[hD];rfl) z);refine vA (q51 es.size QO _ _ yC λord d po=>?_);have hol:ord.length=es.size:=by rw[po.length_eq,yC]
   refine vA (tU ?_ (by rw[zB,hol];exact yI (yh gb) (by decide)));refine vA ?_;unfold setEpoch;have go2:(s.heap.push { cls:=.type "tuple", data:=.seq (ord.map λ(i:Nat)=>uf i).toArray }).get? a=some o:=zE _ go;refine vA (uF go2 gd T.fits gr);refine vA dJ;have hs1:(s.heap.push { cls:=.type "tuple", data:=.seq (ord.map λ(i:Nat)=>uf i).toArray }).objs.size=s.heap.objs.size+1:=yo _ _;have ht1:(s.heap.push { cls:=.type "tuple", data:=.seq (ord.map λ(i:Nat)=>uf i).toArray }).get? s.heap.objs.size=some { cls:=.type "tuple", data:=.seq (ord.map λ(i:Nat)=>uf i).toArray }:=zU _ rfl;refine k _ d _ [(s.heap.push { cls:=.type "tuple", data:=.seq (ord.map λ(i:Nat)=>uf i).toArray }).objs.size,a,s.heap.objs.size] (λi v=>∃p x,ord[i]?=some p/\es[p]?=some x/\v=x.2)
    (λi h=>h.get? (s.heap.push { cls:=.type "tuple", data:=.seq (ord.map λ(i:Nat)=>uf i).toArray }).objs.size=some (Wc aL i a es.size ep)/\h.get? a=some o/\h.get? s.heap.objs.size=some { cls:=.type "tuple", data:=.seq (ord.map λ(i:Nat)=>uf i).toArray }) (λb u e=>zE _ O5) (by rw[hs1];exact xP _) kP (λA hh=>by
    rw[<- hl];exact qa9 (tp:=s.heap.objs.size) hh (by rw[hs1];exact zy (yX hlt)) (by rw[hs1];exact zy Vs) gd T.fits ord po rfl)
    ⟨jt,zE _ go2,zE _ ht1⟩ (λacc hacc=>?_) kP
   ·simp only[zG,zj,or_false]at hb
    rcases hb with rfl|rfl|rfl
    ·exact .inr (by rw[hs1];exact xP _)
    ·exact .inl rfl
    ·exact .inr bX
   ·have e:acc.toList=(ord.map λp=>es.toList.getD p adw).map (·.2):=by
     apply yt;intro i;rw[zd,zP,zP];rcases zz i acc.size with z|z
     ·obtain⟨p,x,h1,h2,h3⟩:=hacc.2 i acc[i] (yD z)
      rw[yD z,h1,h3];show _=some (es.toList.getD p adw).2;rw[zX,zd,h2];rfl
     ·rw[yn z,zu (by rw[hol,hl,<- hacc.1];exact z)];rfl
    have p2:(ord.map λp=>es.toList.getD p adw).Perm es.toList:=by
     refine(po.map _).trans ?_;have:(zo es.size).map (λp=>es.toList.getD p aeE)=es.toList:=by
      apply yt;intro i;rw[zP];rcases zz i es.size with z|z
      ·rw[wB z]
       show some (es.toList.getD i aeE)=_;rw[zX,zA (by rw[zO];exact z)];rfl
      ·rw[zu (by rw[yC];exact z),zu (by rw[zO];exact z)];rfl
     rw[this]
    rw[e];exact perm_ok _ p2
   ·rw[yo,hs1]
    simp only[zG,zj,or_false]at hb;rcases hb with rfl|rfl|rfl
    ·rw[hs1];exact yj _
    ·exact yX (yX hlt)
    ·exact yX Vs
end
section
variable{prog:vU}{w:vY}{A:vg}{E:vB->vC->Prop}{s:vC}
theorem qcc{R:sU->vC->Prop}{a:vF}{xs:af}(hh:db)(SI:pS)(S:vF)(hSa:S≠a)(res:vB)(c₀:Nat)(hS:s.heap.get? S=some { cls:=.type "list", data:=.seq #[] c₀ })(hR:∀h' tk d acc' c',(∀b o,b≠S->s.heap.get? b=some o->h'.get? b=some o)->h'.get? S=some { cls:=.type "list", dict:=none,data:=.seq acc' c',slots:=#[] }->(∃ys,uI acc'.toList ys/\ys.Perm xs)->R Dx { s with heap:=h',toks:=tk,drawn:=d }):
  vQ ap A.in1 (Builtin.List.listExtendWith hZ dH res)
   (λfin s'=>match fin with|.done f=>R adC s'|.again c'=>c'.quiet=true/\uj ap A c' R s') BQ s:=by
 have hn:xs.length<=sizeLine:=yI (yh SI.len) (by decide);obtain⟨o,es,ep,t,go,gx,gd,T,gl,gb,gg,gv,gn⟩:=id SI;have hTy:∀h:vk,h.get? a=some o->Shared.TypeIs { s with heap:=h } dH "set" := λh e=>⟨o,e,gx.1⟩;unfold Builtin.List.listExtendWith;refine vA (uq (T := "set") ⟨o,go,gx.1⟩ ?_);have h1:Builtin.List.listSameRef hZ dH=false:=by simp[Builtin.List.listSameRef,hSa]
 have h2:(Value.type "set" == Value.type "list")=false:=by decide
 have h3:(Value.type "set" == Value.type "tuple")=false:=by decide
 simp only[h1,h2,h3,wq,yG,if_false];refine vA (qga SI λh1 d I fp P St keep hI hfp W st items hlt=>?_);have hS1:h1.get? S=some { cls:=.type "list", data:=.seq #[] c₀ }:=keep _ _ hS;have hSlt:S<s.heap.objs.size:=zN hS;have hSf:S∉fp:=λhm=>by
  rcases hfp S hm with z|z
  ·exact hSa z
  ·exact vP hSlt (Ym.mpr z)
 have key:∀(h:vk)(c₁ tk:Nat),St 0 h->(∀b o,b≠S->s.heap.get? b=some o->h.get? b=some o) ->
   h.get? S=some { cls:=.type "list", data:=.seq #[] c₁ }->uj ap A (.builtin "list.extend.loop" ⟨[hZ,CZ,res],[]⟩) R { s with heap:=h,toks:=tk,drawn:=d }:=by
  intro h c₁ tk hst hk hS₁;refine sG (W A.in1 hh).toS hn S hSf res xs.length 0 _ #[] c₁ rfl (zn _) hst hS₁ adr λs' acc' c' hm hS' hacc=>?_;rw[MI];refine hR s'.heap s'.toks d acc' c' (λb o hb e=>hm.heap b o (λhmem=>?_) (hk b o hb e)) hS' (items acc' hacc);rcases zG.mp hmem with e'|hmem
  ·exact hb e'
  ·exact vP Ep (by rw[zR.mp hmem];exact Ym.mpr hI)
 refine vA (vp (qfP ⟨o,keep _ _ go,gx.1⟩ ?_));refine vi eW (λ_=>vG ⟨fX,key _ c₀ _ st (λb o _ e=>keep b o e) hS1⟩);refine vA acz;refine vA ?_;show vQ _ _ (tP S (·.push .none) >>= λ_=>tP S (·.pop)) _ _ _;refine vA (uS hS1 rfl ?_);have hS₂:=xq (Obj.mapSeq (·.push Value.none)) hS1 rfl;refine uS (hz:=by seq_fits) hS₂ rfl ?_;have hS₃:=xq (Obj.mapSeq (·.pop)) hS₂ rfl;refine vG ⟨fX,key _ _ _ ?_ KS hS₃⟩
 ·refine(W A.in1 hh).frame 0 _ _ st λb hb o e=>?_
  have hbS:b≠S:=λh=>hSf (h▸hb);exact(zw _ _ (Ne.symm hbS)).trans ((zw _ _ (Ne.symm hbS)).trans e)
 ·exact(zw _ _ ji).trans ((zw _ _ ji).trans (keep b o e))
theorem qaD{R:List vB->vC->Prop}{a:vF}{xs:af}(hh:db)(SI:pS)(h:∀(h':vk)(tk:Nat)(d:sy)(vs:bu)(ys:af),(∀b o,s.heap.get? b=some o->h'.get? b=some o)->s.heap.objs.size<h'.objs.size->uI vs ys->ys.Perm xs->R vs { s with heap:=h',toks:=tk,drawn:=d }):
  vQ ap A (collect dH) R E s:=by
 obtain⟨o,es,ep,t,go,gx,gd,T,gl,gb,gg,gv,gn⟩:=id SI;have hlt:a<s.heap.objs.size:=zN go;unfold collect;refine vA (wpAny_runValue (uQ entry_proto_collect' ?_));rw[Around.under_plainId PySem.F.plain_proto_collect _];show vQ _ A.in1 (newList [] >>= λl=>again (.builtin "list.__iadd__" ⟨[l,dH],[]⟩)) _ _ s;refine vA (vq ?_);refine vG ⟨uV PySem.F.plain_list_iadd _,uQ entry_list_iadd' ?_⟩;rw[Around.under_plainId PySem.F.plain_list_iadd _];have hS₁:(s.heap.push { cls:=.type "list", data:=.seq ([]:List vB).toArray }).get? s.heap.objs.size=some { cls:=.type "list", data:=.seq #[] }:=zU _ rfl;show vQ _ A.in1 (Builtin.List.listExtendWith aL dH aL) _ _ _;have key:=qcc (prog:=prog) (A:=A) (s:={ s with heap:=s.heap.push { cls:=.type "list", data:=.seq ([]:List vB).toArray } })
  (R:=λ(q:sU) (s':vC)=>∃(h':vk) (tk:Nat) (d:sy) (acc':dI) (c':Nat),q=.ok (.ret aL)/\s'={ s with heap:=h',toks:=tk,drawn:=d } /\
   (∀b o,s.heap.get? b=some o->h'.get? b=some o)/\h'.get? s.heap.objs.size=some { cls:=.type "list", dict:=none,data:=.seq acc' c',slots:=#[] }/\∃ys,uI acc'.toList ys/\ys.Perm xs)
  hh (SI.at λo e=>zE _ e) s.heap.objs.size (wL hlt) aL 0 hS₁
  (λh' tk d acc' c' hk hS' hacc=>⟨h',tk,d,acc',c',rfl,rfl,λb o e=>hk b o (zy Ep) O5,hS',hacc⟩)
 refine v9 key (λfin s' x=>?_) λe s' x=>?_
 ·cases fin with
  | done f=>
   obtain⟨h',tk,d,acc',c',e,rfl,hk,hS',ys,y1,y2⟩:=x;cases e;show vQ _ A (load s.heap.objs.size >>= _) _ _ _;refine vA UG;exact vG IH
  | again c₁=>
   refine⟨x.1,uo x.2 λq s₂ y=>?_⟩;obtain⟨h',tk,d,acc',c',rfl,rfl,hk,hS',ys,y1,y2⟩:=y;show vQ _ A (load s.heap.objs.size >>= _) _ _ _;refine vA UG;exact vG IH
 ·obtain⟨_,_,_,_,_,e',_⟩:=x
  cases e'
theorem qc5{a:vF}{xs:af}{Q:aQ}(hh:db)(SI:pS)(h64:xs.length<64)(h:∀(D:vF)(h':vk)(tk:Nat)(d:sy)(vs:bu)(ys:af)(n:Nat),(∀b o,s.heap.get? b=some o->h'.get? b=some o)->s.heap.objs.size<=D->h'.get? D=some Cs->uI vs ys->ys.Perm xs->ys.Pairwise (· <= ·)->Q Jz { s with heap:=h',toks:=tk,drawn:=d }):
  vQ ap A aer Q E s:=by
 refine Calls.call_function_entry sH tq tu (sq _) ?_;unfold Builtin.«sorted»;refine vA (m:=sW "sorted" 1 1 _) gr;refine vA (qaD (A:=A.in1) hh SI λh1 tk d vs ys hk hz y1 y2=>?_);have hlen:vs.length=xs.length:=by rw[IntsAre.length y1,y2.length_eq]
 refine vA (uu ?_ (yI (by rw[hlen];exact yh h64) (by decide)));have hoL:(h1.push eM).get? h1.objs.size=some eM:=zU _ rfl;refine vA (vp (vt slot_list_sort ⟨_,hoL,rfl⟩ entry_list_sort (list_sort_tree hoL y1 (by rw[hlen];exact h64) λout ns' a1 a2 a3=>dv) (sI _)));obtain⟨n,hn⟩:=sortedHeap_at (vs:=vs) (out:=out) hoL;refine vG ⟨_,rfl,h h1.objs.size _ tk d out.toList ns' n (λb o e=>?_) ?_ ?_ a1 (a2.trans y2) a3⟩
 ·have e1:=hk b o e
  rw[sortedHeap_old (zy acq) (by rw[yo];exact yX acq)];exact zE _ e1
 ·exact yh hz
 ·rw[xy];exact hn
end
end Hk
namespace L2
open PySem PySem.Spec PyProof.Rows
noncomputable def Wo(names:rq)(cells:lW)(cs:lW):List (Str×vF) :=
 match names with
 | []=>cs
 | p::r=>Wo r cells (if p.2 == .free then (p.1,(cells.lookup p.1).getD 0)::cs else cs)
theorem q4O{scope:u4}{env:Env}(h:∀p∈scope.names,p.2=NameKind.free->(env.cells.lookup p.1).isSome=true):
  closureFor scope env=pure (Wo scope.names env.cells []):=by
 simp only[closureFor];generalize scope.names=l at h ⊢;have key:∀(l:rq)(cs:lW),(∀p∈l,p.2=NameKind.free->(env.cells.lookup p.1).isSome=true) ->
   (forIn l cs (λ(p:Str×uh) (r:lW)=>if m7=true then (do let a <- cellOf env p.1;pure (ForInStep.yield ((p.1,a)::r)))else pure HK):Sem _)=pure (Wo l env.cells cs):=by
  intro l
  induction l with
  | nil=>intro cs _;rfl
  | cons p r ih=>
   intro cs hp;rw[Zi];have hr:=λq hq=>hp q (zH _ hq)
   by_cases hf:p.2=NameKind.free
   ·have hs:=hp p zF hf
    obtain⟨a,ha⟩:=yz.mp hs;have e:cellOf env p.1=pure a:=by unfold cellOf;rw[ha]
    have hb:m7=true:=by rw[hf];rfl
    rw[vH hb,e,pure_bind,pure_bind];show forIn r _ _=_;rw[ih _ hr];show _=pure (Wo r env.cells (if p.2 == .free then _ else _));rw[vH hb,ha];rfl
   ·have hb:¬m7=true:=by intro z;exact hf (by cases hk:p.2 <;> simp_all)
    rw[O9,pure_bind];show forIn r _ _=_;rw[ih _ hr];show _=pure (Wo r env.cells (if p.2 == .free then _ else _));rw[O9]
 rw[key l [] h];rfl
theorem qaT{k:uh}(h:(k==NameKind.free)=true):k=NameKind.free:=by cases k <;> first|rfl|cases h
theorem q5v{cells:lW}:∀(l:rq)(cs:lW),(∀p∈l,p.2=NameKind.free->(cells.lookup p.1).isSome=true) ->
  (∀x c,cs.lookup x=some c->cells.lookup x=some c)->∀x c,(Wo l cells cs).lookup x=some c->cells.lookup x=some c
 | [],cs,_,h,x,c,e=>h x c e
 | p::r,cs,hp,h,x,c,e=>by
  refine q5v r _ (λq hq=>hp q (zH _ hq)) (λy d hy=>?_) x c e
  by_cases hb:m7=true
  ·rw[vH hb,xL]at hy
   cases hyp:y==p.1 with
   | true=>
    rw[hyp]at hy;have hy':(cells.lookup p.1).getD 0=d:=zr hy;obtain⟨a,ha⟩:=yz.mp (hp p zF (qaT hb));rw[ha]at hy';rw[eq_of_beq hyp,ha,<- hy'];rfl
   | false=>rw[hyp]at hy;exact h y d hy
  ·rw[O9]at hy;exact h y d hy
theorem q4U{cells:lW}:∀(l:rq)(cs:lW)(x:Str),(JM∈l\/(cs.lookup x).isSome=true)->((Wo l cells cs).lookup x).isSome=true
 | [],cs,x,h=>by
  rcases h with h|h
  ·cases h
  ·exact h
 | p::r,cs,x,h=>by
  refine q4U r _ x ?_;rcases h with h|h
  ·rcases zG.mp h with rfl|h
   ·right
    show (List.lookup x (if (NameKind.free==NameKind.free)=true then _ else _)).isSome=true;rw[vH (by rfl),xL,beq_self_eq_true];rfl
   ·exact .inl h
  ·right
   by_cases hb:m7=true
   ·rw[vH hb,xL]
    cases hx:x==p.1 with
    | true=>rfl
    | false=>exact h
   ·rw[O9];exact h
noncomputable def WE(X:Cx)(N:cg)(scope:u4)(C:vF)(s:vC)(H:Hp)(fp:cX):Cx :=
 { X with N:=N,s₀:=s,H₀:=H,env:=compEnvC scope pY C X.env,outer:=X.stack,stack:=X.stack,ex:=fp,fn:=λ_=>false,pn:=[],xe:=λ_ _=>False }
noncomputable def zBa(M:Nat)(frees:cP)(σ:St):St:=zk M none++frees.map λj=>(σ[j]?).getD none
structure BlkOk (X:Cx) (N:List Str) (M:Nat) (frees:List Nat) (scope:u4):Prop where
 kind:scope.kind=.function
 nocell:∀y∈scope.names,y.2≠.cell
 own:∀y∈scope.names,y.2=.local->scope.names.lookup y.1=some .local
 cells:∀p∈scope.names,p.2=NameKind.free->(X.env.cells.lookup p.1).isSome=true
 fr:∀(k:Nat)(x:Str),N[M+k]?=some x->∃j,frees[k]?=some j/\X.N[j]?=some x/\(X.env.kindOf x=some .cell\/X.env.kindOf x=some .free)/\scope.names.lookup x=some .free
 len:N.length=M+frees.length
theorem q38{env:Env}{x:Str}:∀{names:rq}{k:uh},(∀y∈names,y.2≠.cell)->(k=.cell\/k=.free) ->
  (names.map λ(n,k)=>if fJ then JZ else (n,k)).lookup x=some k->JM∈names
 | [],_,_,_,h=>by cases h
 | (n,k0)::r,k,hc,hk,h=>by
  have ih:=@q38 env x r k (λy hy=>hc y (zH _ hy)) hk;rw[zZ]at h
  by_cases hb:m8=true
  ·have hf:k0=NameKind.free:=qaT (by rw[yP,yP]at hb;exact hb.1.1)
   dsimp only at h
   rw[vH hb,xL]at h;cases hx:x==n with
   | true=>rw[eq_of_beq hx,hf];exact zF
   | false=>rw[hx]at h;exact zH _ (ih h)
  ·dsimp only at h
   rw[O9,xL]at h;cases hx:x==n with
   | true=>
    rw[hx]at h;have e:k0=k:=zr h;have z:=hc (n,k0) zF;rw[eq_of_beq hx];rcases hk with rfl|rfl
    ·exact vP e z
    ·rw[e];exact zF
   | false=>rw[hx]at h;exact zH _ (ih h)
theorem q5h{env:Env}{x:Str}:∀{names:rq},names.lookup x=some .free ->
  (names.map λ(n,k)=>if fJ then JZ else (n,k)).lookup x=some .cell \/
  (names.map λ(n,k)=>if fJ then JZ else (n,k)).lookup x=some .free
 | [],h=>by cases h
 | (n,k0)::r,h=>by
  have ih:=@q5h env x r;rw[zZ]
  dsimp only
  rw[xL]at h
  by_cases hb:m8=true
  ·rw[vH hb,xL]
   cases hx:x==n with
   | true=>exact .inl rfl
   | false=>rw[hx]at h;exact ih h
  ·rw[O9,xL]
   cases hx:x==n with
   | true=>rw[hx]at h;exact .inr h
   | false=>rw[hx]at h;exact ih h
section
variable{X:Cx}{pins:List (vF×Obj)}{σ:St}{H:Hp}{s:vC}{N:List Str}{M:Nat}{frees:List Nat}{scope:u4}{fp:List vF}
theorem Inv.enter{h1:vk}{C D tk:Nat}{m1:bG}(I:au)(B:gY)(f:∀b∈fp,Wm X pins H b)(lt:∀b∈fp,b<s.heap.objs.size)(hC:s.heap.objs.size<C)(hD:s.heap.objs.size<=D)(hDC:C≠D)(k:∀b u,s.heap.get? b=some u->h1.get? b=some u)(hns:h1.Ns C m1)(hl:h1.get? D=some { cls:=.type "list", data:=.seq ([]:List vB).toArray }):
  Inv aG [] Df (upd H D iD) { s with heap:=h1,toks:=tk }:=by
 have sub:=q5v (cells:=X.env.cells) scope.names [] B.cells (λx c e=>by cases e);have hfr:H D=none:=I.hok.fresh hD;have hfc:H C=none:=I.hok.fresh (yh hC);have clt:∀x c,(Wo scope.names X.env.cells []).lookup x=some c->c<s.heap.objs.size:=λx c e=>by
  obtain⟨v,q⟩:=I.cell x c LG;exact q.lt
 refine⟨⟨I.ok.mod,B.kind,I.ok.glob,I.ok.blt,yh hC,λx y c e1 e2=>I.ok.inj x y c (sub x c e1) (sub y c e2),λx hx=>?_,λx c e=>vP e (by intro z;cases z),I.ok.hd,I.ok.frames,.inl rfl,λb hb=>?_,I.bs,yI I.ok.bsz I.sz,λb o e hb=>?_,
  λb hb hf=>?_,I.stack,I.stkFree⟩,rfl,I.bare,Un.laid k hD hfr,⟨m1,hns,Vl⟩,λx c e=>?_,?_,λx c e=>?_,λp hp=>vP (show p∈Rl from hp) (by simp),I.hok.laid k hD ⟨pB,[],0,.nil,hl⟩,?_⟩
 ·have hm:JM∈scope.names:=by
   rcases hx with hx|hx
   ·exact q38 B.nocell bC hx
   ·exact q38 B.nocell MT hx
  exact yz.mp (q4U scope.names [] x (.inl hm))
 ·exact⟨zy (YG (lt b hb) hC),λx c e=>(f b hb).2.2.2.2.1 x c LG⟩
 ·rcases (f b hb).2.2.2.1 with z|z
  ·exact I.ok.noex b o e z
  ·exact vP (yA Ep (yI I.ok.bsz z)) Jn
 ·rcases zG.mp (I.stkSub b hf)with z|z
  ·exact(f b hb).2.1 z
  ·exact(f b hb).2.2.1 z
 ·have hi:M<=i:=by
   rcases zz i M with z|z
   ·unfold zBa at e2
    rw[ze ⇑z,xB,iP]at e2;cases e2
   ·exact z
  obtain⟨q,rfl⟩:∃q,i=M+q:=⟨i-M,∅⟩;obtain⟨j,h1',h2',h3',h4'⟩:=B.fr q x e1;have ev:σ[j]?=some lO:=by
   unfold zBa at e2;rw[zb (by simp),yN,ZQ,zP,h1']at e2;cases e:σ[j]? with
   | none=>rw[xH,e]at e2;cases e2
   | some o=>rw[xH,e]at e2;exact e2
  obtain⟨m,hn,hl'⟩:=I.loc;have vis:Vis X.env.scope x:=by
   rcases h3' with z|z
   ·exact .inr Ng
   ·exact .inr (.inr z)
  obtain⟨u,ru,lk⟩:=hl' j x v h2' ev vis;refine⟨u,ru,.inr ?_⟩;rcases lk with⟨z,_⟩|⟨_,c,ec,ic⟩
  ·rcases h3' with y|y <;> (rw[z]at y;cases y)
  ·obtain⟨c',ec'⟩:=yz.mp (q4U (cells:=X.env.cells) scope.names [] x (.inl (PySem.mem_of_lookup h4')))
   have:c'=c:=zr ((sub x c' ec').symm.trans ec);subst this;exact⟨q5h h4',c',ec',ic.keeps k⟩
 ·obtain⟨v,q⟩:=I.cell x c LG
  exact⟨v,q.keeps k⟩
 ·show upd H D iD C=none
  rw[qd hDC];exact hfc
 ·show upd H D iD c=none
  rw[qd (zy (yA (clt x c e) hD))];exact I.freeC x c LG
 ·show (zBa M frees σ).length=N.length
  unfold zBa;rw[zD,yN,zB,B.len]
end
section
variable{prog:vU}{w:vY}{A:vg}{R:sU->vC->Prop}{s:vC}
theorem qah{elt target iter:vW}{ifs:jw}{scope:u4}{pos:Pos}{it acc:vB}{env:Env}(J:Nat->vC->Prop)(turn:∀n s,J n s->vQ ap A (ub it) (λr s1=>match r with
   | none=>R Ue s1
   | some v=>vQ ap A (tI target it v) (λ_ s2=>vQ ap A (assign target env v) (λ_ s3=>
     vQ ap A (forIn ifs true λc r=>if r=true then do let ok <- rG c env (eval c env);pure Ub else pure HK) (λok s4=>
      if ok=true then vQ ap A (eval elt env) (λx s5=>vQ ap A (call (.builtin "list.append") [acc,x]) (λ_ s6=>∃m,m<n/\J m s6) pN s5) pN s4
      else ∃m,m<n/\J m s4) pN s3) pN s2) pN s1) pN s)
  (n:Nat) (h:J n s):uj ap A (.compLoop jX 0 it acc env) R s:=by
 refine codeAny_loop rfl J (λn s hJ=>?_) n h;show vQ _ A ((compTurn jX 0 it acc env).onRaise (λx=>do noteFrame x env;theTreesLotGoes x)) _ _ s;refine wpAny_noted (v9 (Q:=λfin s'=>match fin with|.done f=>R adC s'|.again c'=>c'=.compLoop jX 0 it acc env/\∃m,m<n/\J m s') ?_ (λ_ _ q=>q) λ_ _ (z:False)=>z.elim);rw[compTurn_list];refine vA (sS (vA (v9 (turn n s hJ) (λr s1 h1=>?_) λ_ _ q=>q)));cases r with
 | none=>exact vG h1
 | some v=>
  refine vA (v9 h1 (λ_ s2 h2=>vA (v9 h2 (λ_ s3 h3=>vA (v9 h3 (λok s4 h4=>?_) λ_ _ q=>q)) λ_ _ q=>q)) λ_ _ q=>q);cases ok with
  | false=>exact vG ⟨rfl,h4⟩
  | true=>exact vA (vA (v9 h4 (λx s5 h5=>vA (v9 h5 (λ_ s6 h6=>vG (vG ⟨rfl,h6⟩)) λ_ _ q=>q)) λ_ _ q=>q))
end
def PTs(X:Cx)(ifs:jw)(t:TT):Prop :=
 ∀(pins:aD)(s:vC)(σ:St)(H:Hp)(Q:j8),Inv X pins σ H s->t σ H Q ->
  vQ aq X.A (forIn ifs true λc r=>if r=true then do let ok <- rG c X.env (eval c X.env);pure Ub else pure HK) Ds X.xe s
theorem qbv{X:Cx}:PTs X [] UC:=λ_ _ _ H _ I q=>wpAny_tests_nil MW
theorem qhR{X:Cx}{c:vW}{t:TT}(h:PT X c t):PTs X [c] t:=λpins s σ H Q I q=>wpAny_tests_one (h pins s σ H Q I q)
noncomputable def zCX(M:Nat)(frees:cP)(wi:TI)(g:TG)(tc:TT)(te:TE):TE:=λσ H Q=>wi σ H λJ H1=>∀D,H1 D=none ->
 ∃W:Nat->Nat->St->Hp->Prop,(∃m,W 0 m Df (upd H1 D iD))/\∀i m σ' H',W i m σ' H' ->
  Rt\/(J.go i H'/\∀x H2,J.yld i H' x H2->g x σ' H2 λσ2 H3=>tc σ2 H3 λb H4=>
   if b=true then te σ2 H4 λv H5=>∃acc,H5 D=some (.lst acc)/\acc.length<sizeLine/\∃m',m'<m/\W (i+1) m' σ2 Ml
   else ∃m',m'<m/\W (i+1) m' σ2 H4)
section
variable{X:Cx}{N:List Str}{M:Nat}{frees:List Nat}{scope:u4}{tg iter elt:vW}{ifs:List vW}{pos:Pos}{wi:TI}{g:TG}{tc:TT}{te:TE}
theorem q8P(hc:cV)(B:gY)(hb:∀C s H fp,PG aG tg g/\PTs aG ifs tc/\PE aG elt te){pins:aD}{σ:St}{Q:VK}{s2:vC}{itv:vB}{E:aQ}{RR:vB->vF->sU->vC->Prop}(h2:PIE X pins σ tg (λJ H1=>∀D,H1 D=none ->
   ∃W:Nat->Nat->St->Hp->Prop,(∃m,W 0 m Df (upd H1 D iD))/\∀i m σ' H',W i m σ' H' ->
    Rt\/(J.go i H'/\∀x H2,J.yld i H' x H2->g x σ' H2 λσ2 H3=>tc σ2 H3 λb H4=>
     if b=true then te σ2 H4 λv H5=>∃acc,H5 D=some (.lst acc)/\acc.length<sizeLine/\∃m',m'<m/\W (i+1) m' σ2 Ml
     else ∃m',m'<m/\W (i+1) m' σ2 H4)) itv s2)
  (hR:∀D C s' H' m,Inv X pins σ H' s'->Q Jz H'->s'.heap.Ns C m->H' C=none->C≠X.env.locals->X.s₀.heap.objs.size<=C->(∀x c,X.env.cells.lookup x=some c->c≠C)->(∀p∈X.pn++pins,p.1≠C)->RR Jz C Ue s') :
  vQ aq X.A (newList []) (λacc s3=>vQ aq X.A (newFunctionEnv scope X.env.globals pY [] X.env.qual none .none (some X.env)) (λcenv s4=>
   uj aq X.A (.compStart aV 0 itv acc { cenv with scope:=relabel scope X.env }) (RR acc cenv.locals) s4) E s3) E s2:=by
 obtain⟨it,fp,tn,J,H2,e,I2,T,st2,f2,q⟩:=h2;subst e;refine vq (wpAny_newFunctionEnv B.nocell (by intro y hy;simp at hy) (λh1 hns hsb=>?_) B.kind)
 dsimp only at hns hsb ⊢
 generalize hP:s2.heap.push { cls:=.type "list", dict:=none,data:=.seq ([]:List vB).toArray }=P1 at hns hsb ⊢;have hsz:P1.objs.size=s2.heap.objs.size+1:=by rw[<- hP,yo]
 have below:∀b,b<s2.heap.objs.size->b≠P1.objs.size:=λb z=>by rw[hsz];exact zy (yX z)
 have keep:∀b u,s2.heap.get? b=some u->h1.get? b=some u:=λb u z=>hsb.extBut b u (below b (zN z)) (zE _ (hP▸zE _ z));have hne:s2.heap.objs.size≠P1.objs.size:=by rw[hsz];exact zy Vs
 have hl:h1.get? s2.heap.objs.size=some { cls:=.type "list", data:=.seq ([]:List vB).toArray }:=hsb.extBut _ _ hne (zE _ (hP▸zU _ rfl));have lt2:∀b∈fp,b<s2.heap.objs.size:=λb z=>by
  obtain⟨o,eo,_⟩:=T.obj _ _ st2 b z;exact zN eo
 have hD0:H2 s2.heap.objs.size=none:=I2.hok.fresh bX;obtain⟨W,⟨m0,w0⟩,turn⟩:=q s2.heap.objs.size hD0;have I4:=I2.enter (N:=N) (M:=M) (frees:=frees) (scope:=scope) (fp:=fp) (h1:=h1) (C:=P1.objs.size) (D:=s2.heap.objs.size) (tk:=s2.toks+([]:List Qu).length) B f2 lt2 (by rw[hsz];exact yj _) bX (Ne.symm hne) keep hns hl;have hcx:∀(C:vF),(WE X N scope C s2 H2 fp).calm=true:=λ_=>hc;have stat:∀{H':Hp},(∀b∈fp,H' b=none)->∀b∈fp,Wm cL [] H' b:=λ{H'} hn b z=>by
  refine⟨hn b z,below b (lt2 b z),λy=>?_,Ng,λx c y=>?_,λp y=>vP (show p∈Rl from y) (by simp)⟩
  ·rcases zG.mp (I2.stkSub b y)with u|u
   ·exact(f2 b z).2.1 u
   ·exact(f2 b z).2.2.1 u
  ·exact(f2 b z).2.2.2.2.1 x c (q5v (cells:=X.env.cells) scope.names [] B.cells (λx c e=>by cases e) x c y)
 have fr4:∀b∈fp,(upd H2 s2.heap.objs.size (HO.lst [])) b=none:=λb z=>by
  rw[qd (zy (lt2 b z))];exact(f2 b z).1
 have st4:tn 0 h1:=T.keep _ _ _ st2 λb _ o z=>keep b o z;have fin:∀(s':vC)(σ':St)(H':Hp),Inv cL [] σ' H' s'->Q jc H'->RR jc P1.objs.size Ue s':=λs' σ' H' I' q'=>by
  obtain⟨m,hm,_⟩:=I'.loc;have u':Un Pp fp H2 H' s2.heap s'.heap:=I'.base;have I0:Inv X pins σ H' s':=I2.call' (ch:=fp) I'.os u' I'.hok I'.bare λb z=>⟨(f2 b z).2.2.2.1,(f2 b z).2.1,(f2 b z).2.2.2.2.1,(f2 b z).2.2.2.2.2⟩;refine hR _ _ s' H' m I0 q' hm I'.free (wL (yA I2.lt (by rw[hsz];exact xP _))) (yI I2.sz (by rw[hsz];exact xP _)) (λx c z=>?_) λp z=>?_
  ·obtain⟨v,y⟩:=I2.cell x c z
   exact below c y.lt
  ·exact below p.1 (zN (I2.pin p z).1)
 have loop:∀s4:vC,s4={ s2 with heap:=h1,toks:=s2.toks+([]:List Qu).length } ->
   uj aq X.A (.compLoop aV 0 jj jc (compEnvC scope pY P1.objs.size X.env)) (RR jc P1.objs.size) s4:=by
  rintro s4 rfl;refine qah (λn s'=>∃i σ' H',Inv cL [] σ' H' s'/\tn i s'.heap/\(∀b∈fp,H' b=none)/\W i n σ' H') ?_ m0 ⟨0,_,_,I4,st4,fr4,w0⟩;rintro n s5 ⟨i,σ5,H5,I5,st5,fr5,w5⟩;rcases turn i n σ5 H5 w5 with⟨stop,qn⟩|⟨go,step⟩
  ·refine thn (T.done cL rfl rfl rfl hc i [] s5 σ5 H5 _ I5 VD st5 stop) λr s6 Z_=>?_
   obtain⟨hr,I6⟩:=Z_;subst hr;exact fin s6 σ5 H5 I6 qn
  ·refine thn (T.item cL rfl rfl rfl hc i [] s5 σ5 H5 _ I5 VD st5 go) λr s6 Z_=>?_
   obtain⟨u,hr,h6⟩:=Z_;subst hr;refine thn h6 λ_ s7 Z_=>?_;obtain⟨x,H7,I7,r7,y7,st7,fr7⟩:=Z_;have I7':=I7.pinned (stat fr7) (T.obj _ _ st7);have B7:=hb P1.objs.size s2 H2 fp;refine thn (B7.1 _ s7 σ5 H7 x u _ I7' r7 (step x H7 y7)) λ_ s8 Z_=>?_;obtain⟨σ8,H8,I8,q8⟩:=Z_;refine thn (B7.2.1 _ s8 σ8 H8 _ I8 q8) λok s9 Z_=>?_;obtain⟨H9,I9,q9⟩:=Z_;have again:∀{σa:St}{Ha:Hp}{sa:vC},Inv cL ([]++zAY fp s7.heap) σa Ha sa->(∃m',m'<n/\W (i+1) m' σa Ha) ->
     ∃m,m<n/\∃i σ' H',Inv cL [] σ' H' sa/\tn i sa.heap/\(∀b∈fp,H' b=none)/\W i m σ' H':=λ{σa Ha sa} Ia ⟨m',hm,wa⟩=>by
    refine⟨m',hm,i+1,σa,Ha,Ia.unpinned,T.keep _ _ _ st7 λb z o eo=>(Ia.pin (b,o) O3).1,λb z=>?_,wa⟩;obtain⟨o,eo,d⟩:=T.obj _ _ st7 b z;exact(Ia.pin (b,o) O3).2.1
   cases ok with
   | false=>exact again I9 q9
   | true=>
    rw[lg];refine thn (B7.2.2 _ s9 σ8 H9 _ I9 q9) λy s10 Z_=>?_;obtain⟨v,H10,I10,r10,acc,ha,hz,m',hm,wn⟩:=Z_;refine thn (q0q (X:=WE X N scope P1.objs.size s2 H2 fp) _ s10 σ8 H10 jc [v] jc [y] (λ_ Hn=>∃m',m'<n/\W (i+1) m' σ8 Hn) I10 rfl (.cons r10 .nil) ⟨_,acc,v,rfl,rfl,ha,hz,m',hm,wn⟩) λ_ s11 Z_=>?_;obtain⟨_,H11,I11,_,q11⟩:=Z_;exact again I11 q11
 exact codeAny_compStart_list (loop _ rfl) (T.self _ 0 _ _ _ st4 (loop _ rfl))
theorem qbc(hc:cV)(B:gY)(hi:On)(hb:∀C s H fp,PG aG tg g/\PTs aG ifs tc/\PE aG elt te)(hs:∀x,vz iter X.env x=pure x:=by intro _;rfl):PE X aV Cp:=by
 intro pins s σ H Q I h;rw[eval_ListComp];refine tX (use:=none) rfl hs (q4O B.cells) B.kind B.own lG;refine q8P (RR:=λacc C=>compPost aq X.A X.xe none cT acc C) hc B hb h2 λD C s' H' m I' q' hm hC h1 h3 h4 h5=>?_;exact⟨m,hm,λh' hs'=>⟨Jz,H',I'.turned (t':=s'.toks) Kr hC h1 (.inr h3) h4 h5,rfl,q'⟩⟩
theorem qbV{i:Nat}{x:Str}{pos' spos:Pos}(hc:cV)(hN:X.N.Nodup)(hi':X.N[i]?=some x)(hx:nD)(B:gY)(hi:On)(hb:∀C s H fp,PG aG tg g/\PTs aG ifs tc/\PE aG elt te)(hsw:mI:=by rfl)(hs:∀x,vz iter X.env x=pure x:=by intro _;rfl):PS X En (We Cp aaf):=by
 intro pins s σ H D I h;rw[exec_Assign_Name_used _ _ _ _ hsw];refine vA (sS (vA ?_));show vQ _ X.A (do let _ <- comprehension (.ListComp elt [⟨tg,iter,ifs,0⟩] scope pos) scope X.env _ (newList []) false (eval iter X.env) (some (assign (.Name x pos') X.env))) _ _ s;refine vA (v9 (tX (use:=some aaZ) (Q:=λ_ s'=>SP X pins D .next s') rfl hs (q4O B.cells) B.kind B.own
  lG) (λ_ s' hq=>vG (vG hq)) λ_ _ q=>q)
 refine q8P (Q:=λy H1=>Xn i y σ H1 D.nx) (RR:=λacc C=>compPost aq X.A X.xe (some aaZ) (λ_ s'=>SP X pins D .next s') acc C) hc B hb h2 λDd C s' H' m I' q' hm hC h1 h3 h4 h5=>?_;show vQ _ X.A (assign bV X.env (.ref Dd)) _ _ _;refine wpAny_assign_Name (q8g I' hN hi' (.inl hx) (v:=.ref Dd) (u:=.ref Dd) rfl (λs'' I'' Z_=>?_) (.inr hx));obtain⟨a,hsb,ha⟩:=Z_;have hCa:C≠a:=by
  rcases ha with rfl|ha
  ·exact h1
  ·exact Ne.symm (h4 x a ha)
 refine⟨m,hm.sameBut hsb hCa,λh' hs'=>⟨_,H',I''.turned (t':=s''.toks) Kr hC h1 (.inr h3) h4 h5,q'⟩⟩
end
end L2
namespace Hk
open PySem L2
inductive D where
 | non|bl (b:Bool)|int (i:Int)|str (x:Str)|lst (xs:List D)|tup (xs:List D)|scr (ns:List Int)|exc (c:Str)|dic (ks:List Int) (xs:List D)
noncomputable def kvsOf:List Int->List V->List T7
 | k::ks,v::vs=>(.inl k,v)::kvsOf ks vs
 | _,_=>[]
def excP(a C:vF)(h:vk):Prop:=∃o,h.get? a=some o/\o.cls=.ref C
mutual
def Rep(K:zC)(H:Hp):D->V->Prop
 | .non,v=>v=.non
 | .bl b,v=>v=.bl b
 | .int i,v=>v=.int i
 | .str x,v=>v=.str x
 | .lst ds,v=>∃a vs,v=.ref a/\H a=some gL/\XB K H ds vs
 | .tup ds,v=>∃a vs,v=.ref a/\H a=some Qx/\XB K H ds vs
 | .scr ns,v=>∃a,v=.ref a/\SqL K H a cN
 | .exc c,v=>∃a C,v=.ref a/\yd K vZ c=some (some (.ref C))/\H a=some (.ext (excP a C))
 | .dic ks ds,v=>∃a vs,v=.ref a/\(∃o,H a=some (.frz o KI))/\ks.length=ds.length/\XB K H ds vs
def XB(K:zC)(H:Hp):List D->List V->Prop
 | [],vs=>vs=[]
 | d::ds,vs=>∃v r,vs=v::r/\Rep K H d v/\XB K H ds r
end
mutual
theorem Rep.mono{K:zC}{H H':Hp}(e:LY):∀{d:D}{v:V},Rep K H d v->Rep K H' d v
 | .non,_,h=>h
 | .bl _,_,h=>h
 | .int _,_,h=>h
 | .str _,_,h=>h
 | .lst _,_,⟨a,vs,h1,h2,h3⟩=>Jj
 | .tup _,_,⟨a,vs,h1,h2,h3⟩=>Jj
 | .scr _,_,⟨a,h1,h2⟩=>⟨a,h1,e.seq h2⟩
 | .exc _,_,⟨a,C,h1,h2,h3⟩=>⟨a,C,h1,h2,e _ _ h3⟩
 | .dic _ _,_,⟨a,vs,h1,⟨o,h2⟩,h4,h3⟩=>⟨a,vs,h1,⟨o,e _ _ h2⟩,h4,TQ⟩
theorem XB.mono{K:zC}{H H':Hp}(e:LY):∀{ds:aY}{vs:bg},XB K H ds vs->XB K H' ds vs
 | [],_,h=>h
 | _::_,_,⟨v,r,h1,h2,h3⟩=>⟨v,r,h1,Rep.mono e h2,TQ⟩
end
section
variable{K:zC}{H:Hp}
theorem XB.nil:XB K H [] []:=rfl
theorem XB.cons{d:D}{ds:aY}{v:V}{vs:bg}(h:Rep K H d v)(t:BJ):XB K H (d::ds) (v::vs):=⟨v,vs,rfl,h,t⟩
theorem XB.len:∀{ds:aY}{vs:bg},XB K H ds vs->ds.length=vs.length
 | [],_,h=>by cases (show _=_ from h);rfl
 | _::_,_,⟨v,r,h1,_,h3⟩=>by rw[h1,zJ,zJ,XB.len h3]
theorem XB.app:∀{ds es:aY}{vs us:bg},XB K H ds vs->XB K H es us->XB K H (ds++es) (vs++us)
 | [],_,_,_,h,t=>by cases (show _=_ from h);exact t
 | _::_,_,_,_,⟨v,r,h1,h2,h3⟩,t=>by rw[h1];exact⟨v,_,rfl,h2,XB.app h3 t⟩
theorem XB.get:∀{ds:aY}{vs:bg}{i:Nat}{d:D},XB K H ds vs->ds[i]?=some d->∃v,vs[i]?=some v/\Rep K H d v
 | [],_,_,_,_,e=>by simp at e
 | _::_,_,0,_,⟨v,r,h1,h2,h3⟩,e=>by simp at e;subst e;rw[h1];exact⟨v,rfl,h2⟩
 | _::_,_,i+1,d,⟨v,r,h1,h2,h3⟩,e=>by
  obtain⟨u,e1,e2⟩:=XB.get (i:=i) (d:=d) h3 ⇑e;exact⟨u,by rw[h1];simpa using e1,e2⟩
theorem XB.take:∀{ds:aY}{vs:bg}(n:Nat),XB K H ds vs->XB K H (ds.take n) (vs.take n)
 | _,_,0,_=>rfl
 | [],_,_+1,h=>by cases (show _=_ from h);rfl
 | _::_,_,n+1,⟨v,r,h1,h2,h3⟩=>by rw[h1];exact⟨v,_,rfl,h2,XB.take n h3⟩
theorem XB.drop:∀{ds:aY}{vs:bg}(n:Nat),XB K H ds vs->XB K H (ds.drop n) (vs.drop n)
 | _,_,0,h=>h
 | [],_,_+1,h=>by cases (show _=_ from h);rfl
 | _::_,_,n+1,⟨v,r,h1,h2,h3⟩=>by rw[h1];exact XB.drop n h3
theorem XB.ints:∀(ns:af),XB K H gG cN
 | []=>rfl
 | n::r=>⟨Io,_,rfl,rfl,XB.ints r⟩
theorem XB.of_ints:∀{ns:af}{vs:bg},XB K H gG vs->vs=ns.map V.int
 | [],_,h=>h
 | n::r,_,⟨v,vs,h1,h2,h3⟩=>by
  have:=XB.of_ints h3;have e:v=.int n:=h2;rw[h1,this,e];rfl
theorem XB.one{d:D}{vs:bg}(h:XB K H [d] vs):∃v,vs=[v]/\Rep K H d v:=by
 obtain⟨v,r,h1,h2,h3⟩:=h;cases (show r=[]from h3);exact QI
theorem XB.two{d e:D}{vs:bg}(h:XB K H [d,e] vs):∃v u,vs=[v,u]/\Rep K H d v/\Rep K H e u:=by
 obtain⟨v,r,h1,h2,h3⟩:=h;obtain⟨u,rfl,h4⟩:=XB.one h3;exact abh
end
structure Ext (G H G' H':Hp):Prop where
 gg:XL G G'
 gh:XL G' H'
 hh:XL H H'
 new:∀b,G b=none->H b≠none->G' b=none
theorem Ext.refl{G H:Hp}(h:AF):Ext G H G H:=⟨dC,h,dC,λ_ e _=>e⟩
theorem Ext.trans{G H G1 H1 G2 H2:Hp}(a:Ext G H G1 H1)(b:Ext G1 H1 G2 H2):Ext G H G2 H2:=by
 refine⟨a.gg.trans b.gg,b.gh,a.hh.trans b.hh,λc h1 h2=>?_⟩;have e1:=a.new c h1 h2;refine b.new c e1 λz=>h2 ?_;exact a.hh.free z
theorem Xr{H:Hp}{p:vF}(h:H p=none)(o:HO):XL H Fv:=λb u q=>by rw[qd (q0G q h)];exact q
theorem zAj{G H:Hp}{p:vF}(e:AF)(o:HO):XL (upd G p o) Fv:=λb u q=>by
 by_cases z:b=p
 ·subst z;rw[qe]at q ⊢;exact q
 ·rw[qd z]at q ⊢;exact e b u q
theorem Xe{G H:Hp}{p:vF}(e:AF)(h:aar)(o:HO):XL G Fv:=λb u q=>by rw[qd (q0G q h)];exact e b u q
theorem Ext.lay{G H:Hp}{p:vF}(e:AF)(h:H p=none)(o:HO):Ext G H (upd G p o) Fv:=by
 have g:G p=none:=e.free h;refine⟨Xr g o,zAj e o,Xr h o,λb h1 h2=>?_⟩
 by_cases z:b=p
 ·subst z;exact vP h h2
 ·rw[qd z];exact h1
theorem Ext.hide{G H:Hp}{p:vF}(e:AF)(h:H p=none)(o:HO):Ext G H G Fv :=
 ⟨dC,Xe e (e.free h) o,Xr h o,acp⟩
inductive W where
 | sh (d:D)|ow (ds:List D)|od (ks:List Int) (ds:List D)|pw (ds:List D)
noncomputable abbrev WSt:=List dh
structure Fr where
 hp:Hp
 pin:Nat->vF
noncomputable instance:CoeFun Fr λ_=>Hp:=⟨Fr.hp⟩
noncomputable instance:Coe Fr Hp:=⟨Fr.hp⟩
noncomputable def fr(H:Hp):Fr:=⟨H,λ_=>0⟩
def X6(K:zC)(F:Fr)(G:Hp)(ω:WSt)(σ:St)(H:Hp):Prop:=∀(i:Nat)ds,ω[i]?=some Ev->∃vs,σ[i]?=some abF/\H Lp=some gL/\G Lp=none/\F.hp Lp=none/\XB K G ds vs /\
 (∀(j:Nat)es,ω[j]?=some mo->F.pin j=F.pin i->j=i)/\∀(j:Nat)es,ω[j]?=some Ew->σ[j]?≠some abF
theorem X6.keep{K:zC}{F:Fr}{G G':Hp}{ω:WSt}{σ:St}{H H':Hp}(o:X6 K F G ω σ H)(e:AJ):X6 K F G' ω σ H':=λi ds h=>by
 obtain⟨vs,h1,h2,h3,h4,h5,h6⟩:=o i ds h;exact⟨vs,h1,M5,e.new _ h3 (by rw[h2];exact λz=>by cases z),h4,Tu,h6⟩
theorem X6.no{K:zC}{F:Fr}{G:Hp}{ω:WSt}{σ:St}{H:Hp}(h:∀(i:Nat)ds,ω[i]?≠some Ev):X6 K F G ω σ H:=λi ds e=>vP e (h i ds)
structure Own (K:zC) (G0:Hp) (H0:Fr) (G:Hp) (ω:WSt) (σ:St) (H:Hp):Prop where
 ext:Ext G0 H0.hp G H
 len:ω.length=σ.length
 sh:∀(i:Nat)d,ω[i]?=some ↥d->∃v,σ[i]?=some (some v)/\Rep K G d v
 ow:∀(i:Nat)ds,ω[i]?=some (some (.ow ds))->∃l vs,σ[i]?=some (some (.ref l))/\H l=some (.lst vs)/\G l=none/\H0 l=none/\XB K G ds vs
 nd:∀(i j:Nat)ds es l,ω[i]?=some (some (.ow ds))->ω[j]?=some (some (.ow es))->σ[i]?=some (some (.ref l))->σ[j]?=some (some (.ref l))->i=j
 od:∀(i:Nat)ks ds,ω[i]?=some (some (.od ks ds))->∃p vs,σ[i]?=some (some (.ref p))/\H p=some (.dK (kvsOf ks vs))/\G p=none/\H0 p=none/\ks.length=ds.length/\XB K G ds vs /\
  ∀(j:Nat)ks' es,ω[j]?=some (some (.od ks' es))->σ[j]?=some (some (.ref p))->i=j
 pw:X6 K H0 G ω σ H
inductive R where
 | sh (d:D)|fr (ds:List D)|vw (ds:List D)
noncomputable def R.d:R->D
 | .sh d=>d
 | .fr ds=>.lst ds
 | .vw ds=>.lst ds
def zCi(K:zC)(H G' H':Hp):R->V->Prop
 | .sh d,v=>Rep K G' d v
 | .fr ds,v=>∃l vs,v=.ref l/\H l=none/\G' l=none/\H' l=some gL/\XB K G' ds vs
 | .vw ds,v=>∃l vs,v=.ref l/\H' l=some gL/\XB K G' ds vs
def Vw(K:zC)(G H:Hp)(d:D)(v:V):Prop:=Rep K G d v\/∃ds l vs,d=.lst ds/\v=.ref l/\H l=some gL/\XB K G ds vs
theorem Own.keep{K:zC}{G0:Hp}{H0:Fr}{G G':Hp}{ω:WSt}{σ:St}{H H':Hp}(o:bT)(e:AJ):Own K G0 H0 G' ω σ H':=by
 refine⟨o.ext.trans e,o.len,MZ,λi ds h=>?_,o.nd,λi ks ds h=>?_,o.pw.keep e⟩
 ·obtain⟨v,h1,h2⟩:=o.sh i d h
  exact⟨v,h1,h2.mono e.gg⟩
 ·obtain⟨l,vs,h1,h2,h3,h4,h5⟩:=o.ow i ds h
  exact⟨l,vs,h1,M5,e.new l h3 (by rw[h2];exact λz=>by cases z),h4,Tu⟩
 ·obtain⟨l,vs,h1,h2,h3,h4,h6,h5,h7⟩:=o.od i ks ds h
  exact⟨l,vs,h1,M5,e.new l h3 (by rw[h2];exact λz=>by cases z),h4,h6,Tu,h7⟩
theorem Own.gh{K:zC}{G0:Hp}{H0:Fr}{G:Hp}{ω:WSt}{σ:St}{H:Hp}(o:bT):XL G H:=o.ext.gh
noncomputable abbrev FE:=WSt->Option R
noncomputable abbrev FD:=WSt->Option D
noncomputable abbrev FT:=WSt->Option Bool
noncomputable abbrev FA:=WSt->Option aY
def zCV(K:zC)(t:TE)(f:FE):Prop:=∀G0 H0 G ω σ H r(Q:VK),Own K G0 H0 G ω σ H->f ω=some r ->
 (∀v G' H',Ext G H G' H'->zCi K H G' H' r v->Q v H')->t σ H Q
def zAX(K:zC)(t:TE)(f:FD):Prop:=∀G0 H0 G ω σ H d(Q:VK),Own K G0 H0 G ω σ H->f ω=some d ->
 (∀v G' H',Ext G H G' H'->Rep K G' d v->Q v H')->t σ H Q
def SimV(K:zC)(t:TE)(f:FD):Prop:=∀G0 H0 G ω σ H d(Q:VK),Own K G0 H0 G ω σ H->f ω=some d ->
 (∀v G' H',Ext G H G' H'->Vw K G' H' d v->Q v H')->t σ H Q
def zBA(K:zC)(t:TT)(f:FT):Prop:=∀G0 H0 G ω σ H b(Q:j8),Own K G0 H0 G ω σ H->f ω=some b ->
 (∀G' H',Ext G H G' H'->Q b H')->t σ H Q
def SimA(K:zC)(t:TA)(f:FA):Prop:=∀G0 H0 G ω σ H ds(Q:nV),Own K G0 H0 G ω σ H->f ω=some ds ->
 (∀vs G' H',Ext G H G' H'->XB K G' ds vs->Q vs H')->t σ H Q
def XE(X:Cx)(e:vW)(f:FE):Prop:=∃t,PE X e t/\zCV X.K t f
def XD(X:Cx)(e:vW)(f:FD):Prop:=∃t,PE X e t/\zAX X.K t f
def XV(X:Cx)(e:vW)(f:FD):Prop:=∃t,PE X e t/\SimV X.K t f
def XT(X:Cx)(e:vW)(f:FT):Prop:=∃t,PT X e t/\zBA X.K t f
def XW(X:Cx)(e:vW)(f:FT):Prop:=∃t,PW X e t/\zBA X.K t f
def XA(X:Cx)(es:jw)(f:FA):Prop:=(∃t,PA X es t/\SimA X.K t f)/\∀ω ds,f ω=some ds->ds.length=es.length
noncomputable def eOf(f:FD):FE:=λω=>(f ω).map R.sh
noncomputable def dOf(f:FE):FD:=λω=>match f ω with
 | ↥d=>some d
 | some (.fr ds)=>some fQ
 | _=>none
noncomputable def vOf(f:FE):FD:=λω=>(f ω).map R.d
section
variable{X:Cx}{e:vW}
theorem XD.toE{f:FD}(h:L0):XE X e (eOf f):=by
 obtain⟨t,h1,h2⟩:=h;refine⟨t,h1,b8⟩;unfold eOf at e;cases q:f ω with
 | none=>rw[q]at e;cases e
 | some d=>rw[q]at e;cases e;exact h2 G0 H0 G ω σ H d Q o q k
theorem XE.toD{f:FE}(h:XE X e f):XD X e (dOf f):=by
 obtain⟨t,h1,h2⟩:=h;refine⟨t,h1,fI⟩;unfold dOf at e;cases q:f ω with
 | none=>rw[q]at e;cases e
 | some r=>
  rw[q]at e;cases r with
  | sh d'=>cases e;exact h2 G0 H0 G ω σ H _ Q o q k
  | fr ds=>
   cases e;refine h2 G0 H0 G ω σ H _ Q o q λv G' H' x Z_=>?_;obtain⟨l,vs,e1,e2,e3,e4,e5⟩:=Z_;have s1:XL G' Ib:=Xr e3 _;refine k v Ib H' BO OB
   ·by_cases hb:b=l
    ·subst hb;rw[qe]at z;rw[e4];exact z
    ·rw[qd hb]at z;exact x.gh b u z
   ·rw[qd (λhb=>z2 (by rw[hb];exact e2))];exact x.new b z1 z2
  | vw ds=>cases e
theorem XE.toV{f:FE}(h:XE X e f):XV X e (vOf f):=by
 obtain⟨t,h1,h2⟩:=h;refine⟨t,h1,fI⟩;unfold vOf at e;cases q:f ω with
 | none=>rw[q]at e;cases e
 | some r=>
  rw[q]at e;have e':r.d=d:=zr e;subst e';refine h2 G0 H0 G ω σ H r Q o q λv G' H' x y=>k v G' H' x ?_;cases r with
  | sh d'=>exact .inl y
  | fr ds=>obtain⟨l,vs,e1,e2,e3,e4,e5⟩:=y;exact .inr ⟨ds,l,vs,rfl,e1,e4,e5⟩
  | vw ds=>obtain⟨l,vs,e1,e2,e3⟩:=y;exact .inr ⟨ds,l,vs,rfl,e1,e2,e3⟩
theorem XD.toV{f:FD}(h:L0):XV X e f:=by
 obtain⟨t,h1,h2⟩:=h;exact⟨t,h1,λG0 H0 G ω σ H d Q o e k=>h2 G0 H0 G ω σ H d Q o e λv G' H' x y=>k v G' H' x (.inl y)⟩
end
noncomputable def Y1(i:Nat):FE:=λω=>match ω[i]? with
 | some ↥d=>↥d
 | some (some (.ow ds))=>some GD
 | some (some (.pw ds))=>some GD
 | _=>none
noncomputable def fC(d:D):FD:=λ_=>some d
section
variable{X:Cx}
theorem zBp{e:vW}(i:Nat)(h:PE X e LU):XE X e (Y1 i):=by
 refine⟨_,h,b8⟩;unfold Y1 at e;cases q:ω[i]? with
 | none=>rw[q]at e;cases e
 | some w=>
  rw[q]at e;cases w with
  | none=>cases e
  | some w=>
   cases w with
   | sh d=>
    cases e;obtain⟨v,h1,h2⟩:=o.sh i d q;exact⟨v,h1,k v G H mE h2⟩
   | ow ds=>
    cases e;obtain⟨l,vs,h1,h2,h3,h4,h5⟩:=o.ow i ds q;exact⟨_,h1,k _ G H mE ⟨l,vs,rfl,h2,h5⟩⟩
   | od ks ds=>cases e
   | pw ds=>
    cases e;obtain⟨vs,h1,h2,h3,h4,h5,_⟩:=o.pw i ds q;exact⟨_,h1,k _ G H mE ⟨_,vs,rfl,h2,h5⟩⟩
theorem xd_c{e:vW}{v:V}{d:D}(h:PE X e (tC v))(hr:∀K H,Rep K H d v):XD X e (fC d):=by
 refine⟨_,h,b8⟩;cases e;exact k v G H mE (hr _ _)
theorem Y3{i j pos}:XD X Uj (fC iR):=xd_c q5t λ_ _=>rfl
theorem Wf{b j pos}:XD X Nj (fC Ni):=xd_c q5F λ_ _=>rfl
theorem zCg{x j pos}:XD X Uk (fC L5):=xd_c qiX λ_ _=>rfl
end
theorem bnd{α β:Type}{o:Option α}{f:α->Option β}{r:β}(h:o.bind f=some r):∃a,o=some a/\f a=some r:=Option.bind_eq_some_iff.mp h
theorem mpd{α β:Type}{o:Option α}{f:α->β}{r:β}(h:o.map f=some r):∃a,o=some a/\f a=r:=wX.mp h
noncomputable def XC:FA:=λ_=>some []
noncomputable def Y0(f:FD)(g:FA):FA:=λω=>(f ω).bind λd=>(g ω).map λds=>d::ds
section
variable{X:Cx}{e:vW}{es:List vW}
theorem Y2:XA X [] XC:=⟨⟨_,qq,λG0 H0 G ω σ H ds Q o e k=>by cases e;exact k [] G H mE rfl⟩,λω ds e=>by cases e;rfl⟩
theorem Yz{f:FD}{g:FA}(h:L0)(hr:XA X es g)(hs:aS:=by rfl):XA X kw (Y0 f g):=by
 obtain⟨t,h1,h2⟩:=h;obtain⟨⟨u,h3,h4⟩,h5⟩:=hr;refine⟨Bl,λω ds e=>?_⟩
 ·obtain⟨d,q,e⟩:=bnd e
  obtain⟨r,q2,e⟩:=mpd e;subst e;refine h2 G0 H0 G ω σ H d _ o q λv G1 H1 x1 y1=>?_;refine h4 G0 H0 G1 ω σ H1 r _ iN q2 λvs G2 H2 x2 y2=>?_;exact k _ G2 H2 eO (XB.cons Nw y2)
 ·obtain⟨d,q,e⟩:=bnd e
  obtain⟨r,q2,e⟩:=mpd e;subst e;rw[zJ,zJ,h5 ω r q2]
noncomputable def W1(g:FA):FD:=λω=>(g ω).map D.tup
noncomputable def zAg(g:FA):FE:=λω=>(g ω).map R.fr
theorem zBd{n:Nat}(h:n<=1000):n<=sizeLine:=yh (zBm h)
theorem Xl{x1 pos}{g:FA}(h:XA X es g)(hl:es.length<=1000:=by decide):XD X aav (W1 g):=by
 obtain⟨⟨t,h1,h2⟩,h5⟩:=h;refine⟨_,q9g h1,fI⟩;obtain⟨ds,q,e⟩:=mpd e;subst e;refine h2 G0 H0 G ω σ H ds _ o q λvs G1 H1 x1 y1=>⟨zBd (by rw[<- y1.len,h5 ω ds q];exact hl),At⟩;have x2:=Ext.lay x1.gh hp Qx;exact k _ _ _ eO ⟨p,vs,rfl,qe,Nw⟩
theorem Xy{pos}{g:FA}(h:XA X es g)(hl:es.length<=1000:=by decide):XE X aeN (zAg g):=by
 obtain⟨⟨t,h1,h2⟩,h5⟩:=h;refine⟨_,q2t h1,fI⟩;obtain⟨ds,q,e⟩:=mpd e;subst e;refine h2 G0 H0 G ω σ H ds _ o q λvs G1 H1 x1 y1=>⟨zBd (by rw[<- y1.len,h5 ω ds q];exact hl),At⟩;have x2:=Ext.hide x1.gh hp gL;exact k _ _ _ eO ⟨p,vs,rfl,x1.hh.free hp,x1.gh.free hp,qe,y1⟩
inductive O where
 | sh (d:D)|fr (ds:List D)
noncomputable def O.r:O->R
 | .sh d=>.sh d
 | .fr ds=>.fr ds
noncomputable def spD(K:zC)(n:Nat)(m:ci):Sp:=λvs H Q _=>∃G ds r,m ds=some r/\ds.length=n/\XL G H/\XB K G ds vs/\∀v G' H',Ext G H G' H'->zCi K H G' H' r.r v->Q v H'
noncomputable def Y8(m:ci)(g:FA):FE:=λω=>(g ω).bind λds=>(m ds).map O.r
theorem zCv{CX:CXT}{k:Nat}{f:vF}{fd:vO}{ps:cg}{m:ci}{E:XK}{x:Str}{p pos:Pos}{g:FA}(F:FnOk X.prog X.w X.K X.mg X.base CX k f fd ps (spD X.K (e::es).length m))(hr:adj)(hg:Bz)(hm:X.mg x=some iq)(hk:xl X.K iq=true)(hb:pd)(hx:acs)(ha:XA X kw g)(hdb:aM:=by decide)(he:aS:=by rfl)(hpl:(vo pos iV).any (·.1)=false:=by rfl):
  XE X cY (Y8 m g):=by
 obtain⟨⟨t,h1,h2⟩,h5⟩:=ha;refine⟨_,q27 F hr hg hm hk hb .nil hx h1 hdb he hpl,b8⟩;obtain⟨ds,q,e⟩:=bnd e;obtain⟨r',q2,e⟩:=mpd e;subst e;refine h2 G0 H0 G ω σ H ds _ o q λvs G1 H1 x1 y1=>?_;refine⟨G1,ds,r',q2,h5 ω ds q,x1.gh,by rw[zx];exact y1,λv G2 H2 x2 y2=>k v G2 H2 eO ?_⟩;cases r' with
 | sh d=>exact y2
 | fr ds=>obtain⟨l,vs,e1,e2,e3⟩:=y2;exact⟨l,vs,e1,x1.hh.free e2,e3⟩
end
open PySem.Spec PyProof.Rows PySem.SeqAt PySem.MeetsSeq PySem.MeetsSeq2 PySem.MeetsSeq3 in
theorem q8y{prog:vU}{w:vY}{A:vg}{E:aQ}{s:vC}{t sl:vF}{items:dI}{vl vu:vB}{lo hi:fw}{Q:aQ}(ht:aam)(hs:rV)(pl:tj vl lo)(pu:tj vu hi)(hw:HT.sIx items.size 0 lo=0/\HT.sIx items.size items.size hi=items.size)(h:Q ku s):vQ ap A (tM ku HN) Q E s:=by
 obtain⟨os,hos,hcs,hds⟩:=id hs;have hTs:s.TypeIs HN "slice" := adK;unfold tM
 try with_reducible refine vp ?_
 first|refine vA gr|skip
 refine vA (wpAny_sequenceKey ht.typeIs (by decide) ?_);refine vA (wpAny_callSpecial?_slot (name:=Str.ofString "__getitem__") ht.typeIs PyProof.Rows.slot_tuple_getitem
  mF)
 show vQ _ _ (Builtin.Tuple.tupleItemsOf ku >>= _) _ _ s;refine vA RP;refine vA (uq hTs ?_);rw[vH (by decide)];refine vA (HT.q3t hs pl pu ?_);have hy:ik=true:=by
  rw[hw.1,hw.2];simp
 show vQ _ _ (if ik=true then _ else _) _ _ s;rw[vH hy];have hb:∀{R:rP},R true s->vQ ap A.in1 (Builtin.Tuple.tupleIsExact ku) R E s:=λr=>by
  unfold Builtin.Tuple.tupleIsExact;refine vA (uq ht.typeIs ?_);exact vG r
 refine vA (hb ?_);rw[lg];refine vA acz;exact vG Ag
section
variable{X:Cx}
def rSlW(K:zC):V->Option Int->Option Int->Hp->VK->Prop:=λx lo hi H Q=>∃a xs,x=.ref a/\SqT K H a xs /\
 oI/\Q dH H
theorem qfW:SlR X (rSlW X.K):=by
 intro pins s σ H x v vl vu lo hi sl Q I rx hs pl pu h;obtain⟨a,xs,rfl,hx,hw,q⟩:=h;cases rx;obtain⟨its,r,ht,hz⟩:=I.tuple hx;have hlen:its.toArray.size=xs.length:=by rw[zQ];exact r.length.symm
 refine oz;exact q8y ht hs pl pu (by rw[hlen];exact hw) ⟨dH,H,I,rfl,q⟩
end
theorem Vw.rep{K:zC}{G H:Hp}{d:D}{v:V}(h:Ll)(e:AF):Rep K H d v:=by
 rcases h with h|⟨ds,l,vs,rfl,rfl,h1,h2⟩
 ·exact h.mono e
 ·exact⟨l,vs,rfl,h1,h2.mono e⟩
theorem Vw.keep{K:zC}{G H G' H':Hp}{d:D}{v:V}(h:Ll)(e:AJ):Vw K G' H' d v:=by
 rcases h with h|⟨ds,l,vs,h0,h1,h2,h3⟩
 ·exact .inl (h.mono e.gg)
 ·exact .inr ⟨ds,l,vs,h0,h1,M5,h3.mono e.gg⟩
theorem Vw.lst{K:zC}{G H:Hp}{ds:aY}{v:V}(h:Vw K G H fQ v)(e:AF):∃a vs,v=.ref a/\H a=some gL/\XB K G ds vs:=by
 rcases h with⟨a,vs,h1,h2,h3⟩|⟨ds',l,vs,h0,h1,h2,h3⟩
 ·exact⟨a,vs,h1,e _ _ h2,h3⟩
 ·cases h0;exact⟨l,vs,h1,h2,h3⟩
theorem Vw.of_ne{K:zC}{G H:Hp}{d:D}{v:V}(h:Ll)(n:∀ds,d≠.lst ds):Rep K G d v:=by
 rcases h with h|⟨ds',l,vs,h0,h1,h2,h3⟩
 ·exact h
 ·exact vP h0 (n _)
def VwA(K:zC)(G H:Hp):List D->List V->Prop
 | [],vs=>vs=[]
 | d::ds,vs=>∃v r,vs=v::r/\Vw K G H d v/\VwA K G H ds r
def SimVA(K:zC)(t:TA)(f:FA):Prop:=∀G0 H0 G ω σ H ds(Q:nV),Own K G0 H0 G ω σ H->f ω=some ds ->
 (∀vs G' H',Ext G H G' H'->VwA K G' H' ds vs->Q vs H')->t σ H Q
def XVA(X:Cx)(es:jw)(f:FA):Prop:=∃t,PA X es t/\SimVA X.K t f
section
variable{X:Cx}{e:vW}{es:List vW}
theorem qt:XVA X [] XC:=⟨_,qq,λG0 H0 G ω σ H ds Q o e k=>by cases e;exact k [] G H mE rfl⟩
theorem qm{f:FD}{g:FA}(h:XV X e f)(hr:XVA X es g)(hs:aS:=by rfl):XVA X kw (Y0 f g):=by
 obtain⟨t,h1,h2⟩:=h;obtain⟨u,h3,h4⟩:=hr;refine Bl;obtain⟨d,q,e⟩:=bnd e;obtain⟨r,q2,e⟩:=mpd e;subst e;refine h2 G0 H0 G ω σ H d _ o q λv G1 H1 x1 y1=>?_;refine h4 G0 H0 G1 ω σ H1 r _ iN q2 λvs G2 H2 x2 y2=>?_;exact k _ G2 H2 eO ⟨v,vs,rfl,y1.keep x2,y2⟩
noncomputable def Y9(op:lZ)(f g:FD):FE:=λω=>(f ω).bind λx=>(g ω).bind λy=>op x y
def OpV(K:zC)(r:R2)(op:lZ):Prop:=∀G H x y d v u(Q:VK),XL G H->op x y=some d->Vw K G H x v->Vw K G H y u ->
 (∀w G' H',Ext G H G' H'->zCi K H G' H' d w->Q w H')->r v u H Q
theorem q5B{r:R2}{o:lZ}{f g:FD}{t u:TE}(hd:HD)(h2:SimV X.K t f)(h4:SimV X.K u g):zCV X.K (tOp r t u) IU:=by
 intro G0 H0 G ω σ H d Q ow e k;obtain⟨x,q,e⟩:=bnd e;obtain⟨y,q2,e⟩:=bnd e;refine h2 G0 H0 G ω σ H x _ ow q λv G1 H1 x1 y1=>?_;refine h4 G0 H0 G1 ω σ H1 y _ Q6 q2 λv2 G2 H2 x2 y2=>?_;refine hd G2 H2 x y d v v2 Q x2.gh e (y1.keep x2) y2 λw G3 H3 x3 z=>k w G3 H3 CI ?_;cases d with
 | sh d=>exact z
 | fr ds=>obtain⟨l,vs,e1,e2,e3⟩:=z;exact⟨l,vs,e1,(x1.trans x2).hh.free e2,e3⟩
 | vw ds=>exact z
variable{a b:vW}{pos:Pos}{f g:FD}
theorem q31{op:se}{r:R2}{o:lZ}(ho:OpR X (uc op) r)(hd:HD)(ha:dS)(hb:iG):XE X U9 IU:=by
 obtain⟨t,h1,h2⟩:=ha;obtain⟨u,h3,h4⟩:=hb;exact⟨_,qjZ ho h1 h3,JS⟩
theorem q6Q{op:rA}{r:R2}{o:lZ}(ho:Fo)(hd:HD)(ha:dS)(hb:iG)(hm:Dg):XE X kz IU:=by
 obtain⟨t,h1,h2⟩:=ha;obtain⟨u,h3,h4⟩:=hb;exact⟨_,qhP ho h1 h3 hm,JS⟩
theorem qjY{r:R2}{o:lZ}(ho:IxR X r)(hd:HD)(ha:dS)(hb:iG)(hs:zAn b):XE X Gm IU:=by
 obtain⟨t,h1,h2⟩:=ha;obtain⟨u,h3,h4⟩:=hb;exact⟨_,q4K ho h1 h3 hs,JS⟩
noncomputable def tOf(f:FE):FT:=λω=>match f ω with
 | ↥(.bl k)=>some k
 | _=>none
theorem qdE{t:TE}{f:FE}(h:zCV X.K t f):zBA X.K (tTest t) (tOf f):=by
 intro G0 H0 G ω σ H b Q o e k;unfold tOf at e;cases q:f ω with
 | none=>rw[q]at e;cases e
 | some r=>
  rw[q]at e;cases r with
  | sh d=>
   cases d with
   | bl c=>
    cases e;refine h G0 H0 G ω σ H _ _ o q λv G' H' x y=>?_;cases (show v=V.bl b from y);exact⟨b,rfl,k G' H' x⟩
   | _=>cases e
  | _=>cases e
theorem q4S{op:rA}{r:R2}{o:lZ}(ho:Fo)(hd:HD)(ha:dS)(hb:iG)(hm:Dg):XT X kz (tOf IU):=by
 obtain⟨t,h1,h2⟩:=ha;obtain⟨u,h3,h4⟩:=hb;exact⟨_,qhu ho h1 h3 hm,qdE JS⟩
noncomputable def zBt(c:B0)(g:aao):D->D->Option R
 | .int i,.int j=>if c i j=true then ↥oP else none
 | _,_=>none
theorem Vw.int{K:zC}{G H:Hp}{i:Int}{v:V}(h:Vw K G H iR v):v=.int i:=h.of_ne (λ_ z=>by cases z)
theorem Vw.bl{K:zC}{G H:Hp}{i:Bool}{v:V}(h:Vw K G H (.bl i) v):v=.bl i:=h.of_ne (λ_ z=>by cases z)
theorem Vw.str{K:zC}{G H:Hp}{i:Str}{v:V}(h:Vw K G H (.str i) v):v=.str i:=h.of_ne (λ_ z=>by cases z)
theorem Vw.non{K:zC}{G H:Hp}{v:V}(h:Vw K G H .non v):v=.non:=h.of_ne (λ_ z=>by cases z)
theorem Vw.tup{K:zC}{G H:Hp}{ds:aY}{v:V}(h:Vw K G H B2 v):∃a vs,v=.ref a/\G a=some Qx/\XB K G ds vs:=h.of_ne (λ_ z=>by cases z)
theorem Vw.scr{K:zC}{G H:Hp}{ns:af}{v:V}(h:Vw K G H Cg v):∃a,v=.ref a/\SqL K G a cN:=h.of_ne (λ_ z=>by cases z)
theorem q5w{K:zC}{C:PR}{c:B0}{gV:Nc}{g:aao}(hc:∀i j,c i j=true->C i j)(hg:∀H i j,Rep K H oP (gV i j)):OpV K (rI C gV) (zBt c g):=by
 intro G H x y d v u Q s e hx hy k;cases x with
 | int i=>
  cases y with
  | int j=>
   cases hx.int;cases hy.int;unfold zBt at e
   dsimp only at e
   by_cases z:c i j=true
   ·rw[iP]at e
    cases e;exact⟨i,j,rfl,rfl,hc i j z,UQ⟩
   ·rw[iw]at e;cases e
  | _=>cases e
 | _=>cases e
theorem q2g{K:zC}{gV:Nc}{g:aao}(hg:∀H i j,Rep K H oP (gV i j)):OpV K (rI0 gV) (zBt Co g):=by
 intro G H x y d v u Q s e hx hy k;cases x with
 | int i=>
  cases y with
  | int j=>
   cases hx.int;cases hy.int;cases e;exact⟨i,j,rfl,rfl,UQ⟩
  | _=>cases e
 | _=>cases e
noncomputable def zCz(i j:Int):Bool:=(decide (-(2^64)<i)&&decide (i<2^64)) || (decide (-(2^64)<j)&&decide (j<2^64))
noncomputable def cDiv(_ j:Int):Bool:=decide (0<j)&&decide (j<1073741824)
noncomputable def cMod(_ j:Int):Bool:=decide (0<j)
noncomputable def cPow(i j:Int):Bool:=decide (0<=j)&&decide (j<=1000000)&&decide (i.natAbs<2^64)
noncomputable abbrev zBC:D->D->Option R:=zBt Co λi j=>.int (i-j)
noncomputable abbrev zBW:D->D->Option R:=zBt zCz λi j=>.int (i*j)
noncomputable abbrev oDiv:D->D->Option R:=zBt cDiv λi j=>.int (i/j)
noncomputable abbrev oMod:D->D->Option R:=zBt cMod λi j=>.int (i%j)
noncomputable abbrev oPow:D->D->Option R:=zBt cPow λi j=>.int (i^j.toNat)
noncomputable abbrev oLt:D->D->Option R:=zBt Co λi j=>.bl (decide (i<j))
noncomputable abbrev oLe:D->D->Option R:=zBt Co λi j=>.bl (decide (i<=j))
noncomputable abbrev oGt:D->D->Option R:=zBt Co λi j=>.bl (decide (j<i))
noncomputable def WC:D->D->Option R
 | .int i,.int j=>↥(.int (i+j))
 | .lst xs,.lst ys=>if xs.length+ys.length<=1000000 then some (.fr Nx)else none
 | .tup [],.tup ys=>↥adx
 | .tup (x::xs),.tup ys=>if (x::xs).length+ys.length<=1000000 then ↥(.tup (O8++ys))else none
 | _,_=>none
theorem q62{n:Nat}(h:n<=1000000):n<=sizeLine:=by rw[vh];omega
noncomputable def rCat0(K:zC):R2:=λx y H Q=>∃a b ys,x=.ref a/\y=.ref b/\SqT K H a []/\SqT K H b ys/\Q DE H
theorem qib:OpR X K1 (rCat0 X.K):=by
 intro pins s σ H x y v u Q I rx ry h;obtain⟨a,b,ys,rfl,rfl,ha,hb,q⟩:=h;cases rx;cases ry;obtain⟨its,r1,p1,_⟩:=I.tuple ha;obtain⟨its2,r2,p2,_⟩:=I.tuple hb;have e0:its=[]:=r1.nil_iff.mpr rfl;subst e0;obtain⟨⟨cls,dd,data,sl⟩,ho,hc,n,hd⟩:=id p1;obtain⟨⟨cls2,dd2,data2,sl2⟩,ho2,hc2,n2,hd2⟩:=id p2;simp only at hc hd hc2 hd2;subst hc hd hc2 hd2;exact PySem.concat_meets OY Np PySem.noFill_tuple_add PySem.seq_tuple_add PySem.F.slot_tuple_add PySem.F.entry_tuple_add Aa
  (PyProof.Rows.tuple_addW0 a b _ its2.toArray n n2 dd dd2 sl sl2 (by simp)) ⟨ho,ho2,⟨DE,H,I,rfl,q⟩⟩
noncomputable def zBn(K:zC):R2:=λx y H Q=>rI0 (λi j=>.int (i+j)) x y H Q\/rCat x y H Q\/rCatT K x y H Q\/rCat0 K x y H Q
theorem qdY:OpR X K1 (zBn X.K):=qjC.or (qjo.or (qha.or qib))
theorem qhD{K:zC}:OpV K (zBn K) WC:=by
 intro G H x y d v u Q s e hx hy k;cases x with
 | int i=>
  cases y with
  | int j=>
   cases hx.int;cases hy.int;cases e;exact .inl Vg
  | _=>cases e
 | lst xs=>
  cases y with
  | lst ys=>
   unfold WC at e
   dsimp only at e
   by_cases z:xs.length+ys.length<=1000000
   ·rw[iP]at e
    cases e;obtain⟨a,vs,rfl,h1,h2⟩:=hx.lst s;obtain⟨b,us,rfl,h3,h4⟩:=hy.lst s;refine .inr (.inl ⟨a,b,vs,us,rfl,rfl,h1,h3,q62 (by rw[<- h2.len,<- h4.len];exact z),At⟩);exact k _ G _ aa6 ⟨p,_,rfl,hp,s.free hp,qe,h2.app h4⟩
   ·rw[iw]at e;cases e
  | _=>cases e
 | tup xs=>
  cases y with
  | tup ys=>
   obtain⟨a,vs,rfl,h1,h2⟩:=hx.tup;obtain⟨b,us,rfl,h3,h4⟩:=hy.tup;cases xs with
   | nil=>
    cases e;have ev:vs=[]:=ym h2.len.symm;subst ev;exact .inr (.inr (.inr ⟨a,b,us,rfl,rfl,FV,SqT.of NE,k _ G H dZ ⟨b,us,rfl,h3,h4⟩⟩))
   | cons x0 xs=>
    unfold WC at e
    dsimp only at e
    by_cases z:(x0::xs).length+ys.length<=1000000
    ·rw[iP]at e
     cases e;refine .inr (.inr (.inl ⟨a,b,vs,us,rfl,rfl,FV,SqT.of NE,λw=>?_,q62 (by rw[<- h2.len,<- h4.len];exact z),λw=>?_,λ_ p hp=>?_⟩))
     ·have:=h2.len
      rw[w]at this;cases this
     ·have:=h4.len
      rw[w]at this;have ey:ys=[]:=ym this;subst ey;rw[zx]at k;exact k _ G H dZ ⟨a,vs,rfl,h1,h2⟩
     ·have x2:=Ext.lay s hp (.tup (vs++us))
      exact k _ _ _ x2 ⟨p,_,rfl,qe,(h2.app h4).mono x2.gg⟩
    ·rw[iw]at e;cases e
  | _=>cases xs <;> cases e
 | _=>cases e
theorem qM(ha:dS)(hb:iG):XE X (.BinOp a .Add b pos) (Y9 WC f g):=q31 qdY qhD ha hb
theorem q0M(ha:dS)(hb:iG):XE X (.BinOp a .Sub b pos) (Y9 zBC f g):=q31 qiJ mf ha hb
theorem mulOk{i j:Int}(h:zCz i j=true):CMul i j:=by
 unfold zCz at h;rw[Bool.or_eq_true,yP,yP,decide_eq_true_iff,decide_eq_true_iff,decide_eq_true_iff,decide_eq_true_iff]at h;exact h
theorem divOk{i j:Int}(h:cDiv i j=true):CDiv i j:=by
 unfold cDiv at h;rw[yP,decide_eq_true_iff,decide_eq_true_iff]at h;exact h
theorem powOk{i j:Int}(h:cPow i j=true):CPow i j:=by
 unfold cPow at h;rw[yP,yP,decide_eq_true_iff,decide_eq_true_iff,decide_eq_true_iff]at h;exact⟨h.1.1,h.1.2,h.2⟩
theorem q5u(ha:dS)(hb:iG):XE X RD (Y9 zBW f g):=q31 qjz (q5w (λ_ _ h=>mulOk h) λ_ _ _=>rfl) ha hb
theorem q0B(ha:dS)(hb:iG):XE X (.BinOp a .FloorDiv b pos) (Y9 oDiv f g):=q31 qhd (q5w (λ_ _ h=>divOk h) λ_ _ _=>rfl) ha hb
theorem q02(ha:dS)(hb:iG):XE X (.BinOp a .Mod b pos) (Y9 oMod f g):=q31 qj1 (q5w (λ_ _ h=>of_decide_eq_true h) λ_ _ _=>rfl) ha hb
theorem qeq(ha:dS)(hb:iG):XE X (.BinOp a .Pow b pos) (Y9 oPow f g):=q31 qjb (q5w (λ_ _ h=>powOk h) λ_ _ _=>rfl) ha hb
noncomputable def oNeg:D->Option R
 | .int i=>↥(.int (-i))
 | _=>none
noncomputable def fNeg(f:FD):FE:=λω=>(f ω).bind oNeg
theorem qe0(ha:dS):XE X (.UnaryOp .USub a pos) (fNeg f):=by
 obtain⟨t,h1,h2⟩:=ha;refine⟨_,qk6 qiV h1,λG0 H0 G ω σ H d Q ow e k=>?_⟩;obtain⟨x,q,e⟩:=bnd e;refine h2 G0 H0 G ω σ H x _ ow q λv G1 H1 x1 y1=>?_;cases x with
 | int i=>cases e;cases y1.int;exact⟨i,rfl,Mw⟩
 | _=>cases e
theorem qk4(ha:dS)(hb:iG):XE X Oy (Y9 oLt f g):=q6Q qgy mf ha hb Ju
theorem qh6(ha:dS)(hb:iG):XE X (.Compare a [.LtE] [b] pos) (Y9 oLe f g):=q6Q qjW mf ha hb Ju
theorem qjS(ha:dS)(hb:iG):XE X Oz (Y9 oGt f g):=q6Q qgp mf ha hb Ju
theorem q49(ha:dS)(hb:iG):XT X Oy (tOf (Y9 oLt f g)):=q4S qgy mf ha hb Ju
theorem qjQ(ha:dS)(hb:iG):XT X Oz (tOf (Y9 oGt f g)):=q4S qgp mf ha hb Ju
end
mutual
noncomputable def D.py:D->PyData
 | .non=>.none
 | .bl b=>.bool b
 | .int i=>.int i
 | .str x=>.str x
 | .lst xs=>.list (D.pys xs)
 | .tup xs=>.tuple (D.pys xs)
 | .scr ns=>.list UO
 | .exc _=>.dict []
 | .dic _ _=>.dict []
noncomputable def D.pys:List D->List PyData
 | []=>[]
 | d::ds=>d.py::D.pys ds
end
section
variable{X:Cx}{pins:List (vF×Obj)}{σ:St}{H:Hp}{s:vC}
theorem zAA{h:vk}:∀{ns:af}{us:bu},Xf cN us->∃as,ReadsAll h us UO as
 | [],_,r=>by cases r;exact⟨_,.nil⟩
 | n::ns,_,r=>by
  rw[zZ]at r;cases r with
  | cons r1 r2=>
   obtain⟨t,rfl⟩:=r1;obtain⟨as,q⟩:=zAA (h:=h) r2;exact⟨_,.cons (.int n t) q⟩
mutual
theorem WV(I:au):∀{d:D}{v:V}{u:vB},d.py.canLay0=true->Rep X.K H d v->RelV v u->∃as,Reads s.heap u d.py as
 | .non,_,_,_,h,r=>by cases (show _=V.non from h);cases r;exact⟨_,.none⟩
 | .bl b,_,_,_,h,r=>by cases (show _=V.bl b from h);cases r;exact⟨_,.bool b⟩
 | .int i,_,_,_,h,r=>by cases (show _=V.int i from h);obtain⟨t,rfl⟩:=r;exact⟨_,AV⟩
 | .str x,_,_,_,h,r=>by cases (show _=V.str x from h);obtain⟨t,rfl⟩:=r;exact⟨_,adz⟩
 | .lst ds,_,_,hc,⟨a,vs,rfl,h2,h3⟩,r=>by
  cases r;obtain⟨its,n,rv,e,_⟩:=I.lst h2;obtain⟨as,q⟩:=Wv I (show PyData.canLayAll0 kj=true from hc) h3 rv;exact⟨_,.list e rfl rfl ⇑q⟩
 | .tup ds,_,_,hc,⟨a,vs,rfl,h2,h3⟩,r=>by
  cases r;obtain⟨its,rv,⟨o,e,c,n,dd⟩,_⟩:=I.tuple (SqT.of h2);obtain⟨as,q⟩:=Wv I (show PyData.canLayAll0 kj=true from hc) h3 rv;exact⟨_,.tuple e c dd ⇑q⟩
 | .exc _,_,_,hc,_,_=>by cases hc
 | .dic _ _,_,_,hc,_,_=>by cases hc
 | .scr ns,_,_,_,⟨a,rfl,h2⟩,r=>by
  cases r;obtain⟨its,rv,pl,_⟩:=I.list h2;obtain⟨o,e,c,n,dd⟩:=pl.isList;obtain⟨as,q⟩:=zAA (h:=s.heap) rv;exact⟨_,.list e c dd ⇑q⟩
theorem Wv(I:au):∀{ds:aY}{vs:bg}{us:bu},PyData.canLayAll0 kj=true->XB X.K H ds vs->Xf vs us->∃as,ReadsAll s.heap us kj as
 | [],_,_,_,h,r=>by cases (show _=[]from h);cases r;exact⟨_,.nil⟩
 | d::ds,_,_,hc,⟨v,vr,h1,h2,h3⟩,r=>by
  have hc':=wv.mp (show (d.py.canLay0&&PyData.canLayAll0 kj)=true from hc);subst h1;cases r with
  | cons r1 r2=>
   obtain⟨as,q1⟩:=WV I hc'.1 h2 r1;obtain⟨bs,q2⟩:=Wv I hc'.2 h3 r2;exact⟨_,.cons q1 q2⟩
end
end
noncomputable def shp(d:D):Bool:=SeqAt.shaped d.py
noncomputable def eqD(x y:D):Bool:=PyData.eqv x.py y.py
noncomputable def rEqD(K:zC)(neg:Bool):R2:=λx y H Q=>∃d e,Rep K H d x/\Rep K H e y/\shp d=true/\shp e=true/\Q (.bl (if neg then !eqD d e else eqD d e)) H
noncomputable def oEq(neg:Bool):D->D->Option R:=λx y=>if shp x&&shp y then ↥(.bl (if neg then !eqD x y else eqD x y))else none
section
variable{X:Cx}{a b:vW}{pos:Pos}{f g:FD}
theorem zCd(hu:gM):OpR X (uW .Eq) (rEqD X.K false):=by
 intro pins s σ H x y v u Q I rx ry h;obtain⟨d,e,h1,h2,h3,h4,q⟩:=h;obtain⟨as,ra⟩:=WV I M8 h1 rx;obtain⟨bs,rb⟩:=WV I M7 h2 ry;exact SeqAt.compareEq_shaped ra rb h3 h4 hu Fp
theorem op_neD(hu:gM):OpR X (uW .NotEq) (rEqD X.K true):=by
 intro pins s σ H x y v u Q I rx ry h;obtain⟨d,e,h1,h2,h3,h4,q⟩:=h;obtain⟨as,ra⟩:=WV I M8 h1 rx;obtain⟨bs,rb⟩:=WV I M7 h2 ry;exact SeqAt.compareNe_shaped ra rb h3 h4 hu Fp
theorem zBe{K:zC}{neg:Bool}:OpV K (rEqD K neg) (oEq neg):=by
 intro G H x y d v u Q s e hx hy k;unfold oEq at e
 by_cases z:(shp x&&shp y)=true
 ·rw[iP]at e
  cases e;rw[yP]at z;exact⟨x,y,hx.rep s,hy.rep s,z.1,z.2,nQ⟩
 ·rw[iw]at e;cases e
theorem zBU(hu:gM)(ha:dS)(hb:iG):XE X OA (Y9 gR f g):=q6Q (zCd hu) zBe ha hb Ju
theorem zAr(hu:gM)(ha:dS)(hb:iG):XT X OA (tOf (Y9 gR f g)):=q4S (zCd hu) zBe ha hb Ju
theorem Ww(hu:gM)(ha:dS)(hb:iG):XT X (.Compare a [.NotEq] [b] pos) (tOf (Y9 lh f g)):=q4S (op_neD hu) zBe ha hb Ju
noncomputable def rIs(neg:Bool):R2:=λx y H Q=>(y=.non/\Q (.bl (if neg then !decide (x=.non)else decide (x=.non))) H)\/∃a b,x=.bl a/\y=.bl b/\Q (.bl (if neg then !(a==b)else a==b)) H
theorem zCP:OpR X (uW .IsNot) (rIs true):=by
 intro pins s σ H x y v u Q I rx ry h;rcases h with⟨rfl,q⟩|⟨a,b,rfl,rfl,q⟩
 ·exact qhO pins s σ H x .non v u Q I rx ry ⟨rfl,q⟩
 ·cases rx
  cases ry;exact PyProof.Rows.isnot_bool Fp
noncomputable def isN:D->Bool
 | .non=>true
 | _=>false
noncomputable def oIs(neg:Bool):D->D->Option R
 | x,.non=>↥(.bl (if neg then !isN x else isN x))
 | .bl i,.bl j=>↥(.bl (if neg then !(i==j)else i==j))
 | _,_=>none
theorem isN_of{K:zC}{H:Hp}{d:D}{v:V}(h:Rep K H d v):decide (v=.non)=isN d:=by
 cases d with
 | non=>cases (show v=V.non from h);rfl
 | bl b=>cases (show v=V.bl b from h);rfl
 | int b=>cases (show v=V.int b from h);rfl
 | str b=>cases (show v=V.str b from h);rfl
 | lst _=>obtain⟨a,_,rfl,_⟩:=h;rfl
 | tup _=>obtain⟨a,_,rfl,_⟩:=h;rfl
 | scr _=>obtain⟨a,rfl,_⟩:=h;rfl
 | exc _=>obtain⟨a,_,rfl,_⟩:=h;rfl
 | dic _ _=>obtain⟨a,_,rfl,_⟩:=h;rfl
theorem opv_is{K:zC}{neg:Bool}:OpV K (rIs neg) (oIs neg):=by
 intro G H x y d v u Q s e hx hy k;cases y with
 | non=>
  cases hy.non;refine .inl SD;rw[isN_of (hx.rep s)];cases x <;> (cases e;exact k _ G H dZ rfl)
 | bl j=>
  cases x with
  | bl i=>
   cases hx.bl;cases hy.bl;cases e;exact .inr Vg
  | _=>cases e
 | _=>cases x <;> cases e
theorem zCF(ha:dS)(hb:iG):XT X (.Compare a [.IsNot] [b] pos) (tOf (Y9 (oIs true) f g)):=q4S zCP opv_is ha hb Ju
noncomputable def oIx:D->D->Option R
 | .lst ds,.int i=>(atI ds i).map R.sh
 | .tup ds,.int i=>(atI ds i).map R.sh
 | .scr ns,.int i=>(atI ns i).map λn=>.sh Io
 | _,_=>none
theorem zBG{K:zC}{H:Hp}{ds:aY}{vs:bg}{i:Int}{d:D}(h:BJ)(e:atI ds i=some d):∃v,atI vs i=some v/\Rep K H d v:=by
 unfold atI at e ⊢;rw[<- h.len];cases q:ixN ds.length i with
 | none=>rw[q]at e;cases e
 | some j=>
  rw[q]at e;obtain⟨v,e1,e2⟩:=h.get e;exact⟨v,e1,e2⟩
theorem zCM{ns:af}{i n:Int}(e:atI ns i=some n):atI cN i=some Io:=by
 unfold atI at e ⊢;rw[zB];cases q:ixN ns.length i with
 | none=>rw[q]at e;cases e
 | some j=>
  rw[q]at e;have e':ns[j]?=some n:=e;show (ns.map V.int)[j]?=_;rw[zP,e'];rfl
theorem opv_ix{K:zC}:OpV K (rIx K) oIx:=by
 intro G H x y d v u Q s e hx hy k;cases y with
 | int i=>
  cases hy.int;cases x with
  | lst ds=>
   obtain⟨d',q,e'⟩:=mpd e;subst e';obtain⟨p,vs,rfl,h1,h2⟩:=hx.lst s;obtain⟨w,e1,e2⟩:=zBG h2 q;exact .inl ⟨p,vs,i,w,rfl,rfl,Ke,e1,k _ G H dZ e2⟩
  | tup ds=>
   obtain⟨d',q,e'⟩:=mpd e;subst e';obtain⟨p,vs,rfl,h1,h2⟩:=hx.tup;obtain⟨w,e1,e2⟩:=zBG h2 q;exact .inr (.inl ⟨p,vs,i,w,rfl,rfl,FV,e1,k _ G H dZ e2⟩)
  | scr ns=>
   obtain⟨n,q,e'⟩:=mpd e;subst e';obtain⟨p,rfl,h1⟩:=hx.scr;exact .inl ⟨p,_,i,Io,rfl,rfl,s.seq h1,zCM q,nQ⟩
  | _=>cases e
 | _=>cases x <;> cases e
theorem Y6(ha:dS)(hb:iG)(hs:zAn b:=by exact λ_ _=>rfl):XE X Gm (Y9 oIx f g):=qjY qiB opv_ix ha hb hs
noncomputable abbrev FO:=WSt->Option fw
def SimO(K:zC)(t:TO)(f:FO):Prop:=∀G0 H0 G ω σ H o(Q:FY),Own K G0 H0 G ω σ H->f ω=some o->(∀G' H',Ext G H G' H'->Q o H')->t σ H Q
def XO(X:Cx)(e:EY)(f:FO):Prop:=∃t,PO X e t/\SimO X.K t f
noncomputable def pNo:FO:=λ_=>some none
noncomputable def pAt(f:FD):FO:=λω=>(f ω).bind λd=>match d with|.int i=>some VF|_=>none
theorem zAq:XO X none pNo:=⟨_,qhs,λG0 H0 G ω σ H o Q ow e k=>by cases e;exact k G H ab2⟩
theorem Wn(h:dS):XO X (some a) (pAt f):=by
 obtain⟨t,h1,h2⟩:=h;refine⟨_,qhM h1,λG0 H0 G ω σ H o Q ow e k=>?_⟩;obtain⟨d,q,e⟩:=bnd e;refine h2 G0 H0 G ω σ H d _ ow q λv G1 H1 x1 y1=>?_;cases d with
 | int i=>cases e;cases y1.int;exact⟨i,rfl,k G1 H1 x1⟩
 | _=>cases e
noncomputable def cutD{α:Type}(xs:bH)(lo hi:fw):List α:=(xs.drop oV).take eN
theorem zBL{K:zC}{H:Hp}{ds:aY}{vs:bg}(h:BJ)(lo hi:fw):XB K H EC (zBz vs lo hi):=by
 unfold cutD zBz;rw[h.len];exact(h.drop _).take _
theorem zCb(ns:af)(lo hi:fw):zBz cN lo hi=(cutD ns lo hi).map V.int:=by
 unfold cutD zBz;rw[zB,Zx,ZN]
noncomputable def oSl:D->Option Int->Option Int->Option R
 | .lst ds,lo,hi=>some (.fr EC)
 | .scr ns,lo,hi=>some (.fr ((cutD ns lo hi).map D.int))
 | .tup ds,lo,hi=>if HT.sIx ds.length 0 lo=0/\HT.sIx ds.length ds.length hi=ds.length then ↥B2 else ↥(.tup EC)
 | _,_,_=>none
noncomputable def fSl(f:FD)(l h:FO):FE:=λω=>(f ω).bind λd=>(l ω).bind λlo=>(h ω).bind λhi=>oSl d lo hi
theorem Wk{lo hi:EY}{l h:FO}{p2:Pos}(ha:dS)(hl:XO X lo l)(hh:XO X hi h):XE X (.Subscript a Em pos) (fSl f l h):=by
 obtain⟨t,h1,h2⟩:=ha;obtain⟨tl,h3,h4⟩:=hl;obtain⟨th,h5,h6⟩:=hh;refine⟨_,qf0 (qhb.or (qjt.or qfW)) h1 h3 h5,KU⟩;obtain⟨d,q,e⟩:=bnd e;obtain⟨lo',q2,e⟩:=bnd e;obtain⟨hi',q3,e⟩:=bnd e;refine h2 G0 H0 G ω σ H d _ ow q λv G1 H1 x1 y1=>?_;refine h4 G0 H0 G1 ω σ H1 lo' _ Q6 q2 λG2 H2 x2=>?_;refine h6 G0 H0 G2 ω σ H2 hi' _ ((ow.keep x1).keep x2) q3 λG3 H3 x3=>?_;have y3:=(y1.keep x2).keep x3;have x13:=(x1.trans x2).trans x3;cases d with
 | lst ds=>
  cases e;obtain⟨p,vs,rfl,h1,h2⟩:=y3.lst x3.gh;refine .inl ⟨p,vs,rfl,Ke,acm⟩;exact k _ G3 _ Jo ⟨n,_,rfl,x13.hh.free hn,x3.gh.free hn,qe,zBL h2 _ _⟩
 | scr ns=>
  cases e;obtain⟨p,rfl,h1⟩:=y3.scr;refine .inl ⟨p,_,rfl,x3.gh.seq h1,acm⟩;refine k _ G3 _ Jo ⟨n,_,rfl,x13.hh.free hn,x3.gh.free hn,qe,?_⟩;rw[zCb];exact XB.ints _
 | tup ds=>
  unfold oSl at e
  dsimp only at e
  obtain⟨p,vs,rfl,h1,h2⟩:=y3.tup
  by_cases z:HT.sIx ds.length 0 lo'=0/\HT.sIx ds.length ds.length hi'=ds.length
  ·rw[iP]at e
   cases e;exact .inr (.inr ⟨p,vs,rfl,SqT.of adU,by rw[<- h2.len];exact z,k _ G3 H3 x13 ⟨p,vs,rfl,h1,h2⟩⟩)
  ·rw[iw]at e
   cases e;refine .inr (.inl ⟨p,vs,rfl,SqT.of adU,by rw[<- h2.len];exact z,λn hn=>?_⟩);have x4:=Ext.lay x3.gh hn (.tup (zBz vs lo' hi'));exact k _ _ _ (x13.trans x4) ⟨n,_,rfl,qe,(zBL h2 _ _).mono x4.gg⟩
 | _=>cases e
end
section
variable{X:Cx}{a b c:vW}{pos:Pos}{rest:List vW}{f g:FT}
noncomputable def zBo(f g:FT):FT:=λω=>(f ω).bind λc=>if c=true then g ω else some false
noncomputable def zA4(f g:FT):FT:=λω=>(f ω).bind λc=>if c=true then some true else g ω
noncomputable def WD(f:FT):FT:=λω=>(f ω).map (!·)
theorem qg1{t u:TT}(h:zBA X.K t f)(h':zBA X.K u g):zBA X.K (tAnd t u) (zBo f g):=by
 intro G0 H0 G ω σ H b Q o e k;obtain⟨c,q,e⟩:=bnd e;refine h G0 H0 G ω σ H c _ o q λG1 H1 x1=>?_;cases c with
 | true=>rw[lg]at e ⊢;exact h' G0 H0 G1 ω σ H1 b Q iN e λG2 H2 x2=>k G2 H2 eO
 | false=>cases e;exact k G1 H1 x1
theorem qhG{t u:TT}(h:zBA X.K t f)(h':zBA X.K u g):zBA X.K (tOr t u) (zA4 f g):=by
 intro G0 H0 G ω σ H b Q o e k;obtain⟨c,q,e⟩:=bnd e;refine h G0 H0 G ω σ H c _ o q λG1 H1 x1=>?_;cases c with
 | true=>cases e;exact k G1 H1 x1
 | false=>exact h' G0 H0 G1 ω σ H1 b Q iN e λG2 H2 x2=>k G2 H2 eO
theorem qbD(h:PF):XW X RC f:=let ⟨t,h1,h2⟩:=h;⟨t,qhx h1,h2⟩
theorem q2s(h:PF):XW X Sq f:=let ⟨t,h1,h2⟩:=h;⟨t,qeh h1,h2⟩
theorem qdO(h:PF)(h':XW X mm g):XW X k8 (zBo f g):=let ⟨_,h1,h2⟩:=h;let ⟨_,h3,h4⟩:=h';⟨_,qj9 h1 h3,qg1 h2 h4⟩
theorem q1U(h:PF)(h':XW X Nk g):XW X Lu (zA4 f g):=let ⟨_,h1,h2⟩:=h;let ⟨_,h3,h4⟩:=h';⟨_,qgY h1 h3,qhG h2 h4⟩
theorem XW.toT(h:XW X a f):XT X a f:=let ⟨t,h1,h2⟩:=h;⟨t,h1.pt,h2⟩
theorem q01(h:PF):XT X rQ (WD f):=by
 obtain⟨t,h1,h2⟩:=h;refine⟨_,qix h1,LE⟩;obtain⟨c,q,e⟩:=mpd e;subst e;exact h2 G0 H0 G ω σ H c _ o q k
noncomputable def truD:D->Option Bool
 | .non=>some false
 | .bl b=>some b
 | .int i=>some (i != 0)
 | .lst xs=>some (!xs.isEmpty)
 | .tup xs=>some (!xs.isEmpty)
 | _=>none
noncomputable def W2(f:FD):FT:=λω=>(f ω).bind truD
theorem q5R{α β:Type}{xs:bH}{ys:List β}(h:xs.length=ys.length):xs.isEmpty=ys.isEmpty:=by
 cases xs <;> cases ys <;> first|rfl|cases h
theorem qN{f:FD}(h:dS)(he:∀whole,rG a X.env whole=(do let v <- whole;standAt a.pos;holding [v] VC):=by intro _;rfl):XT X a (W2 f):=by
 obtain⟨t,h1,h2⟩:=h;refine⟨_,q4l h1 he,LE⟩;obtain⟨d,q,e⟩:=bnd e;refine h2 G0 H0 G ω σ H d _ o q λv G1 H1 x1 y1=>⟨b,?_,k G1 H1 x1⟩;cases d with
 | non=>cases e;cases y1.non;rfl
 | bl c=>cases e;cases y1.bl;rfl
 | int i=>cases e;cases y1.int;rfl
 | lst xs=>
  cases e;obtain⟨p,vs,rfl,h1,h2⟩:=y1.lst x1.gh;exact .inl ⟨vs,Ke,by rw[q5R h2.len]⟩
 | tup xs=>
  cases e;obtain⟨p,vs,rfl,h1,h2⟩:=y1.tup;exact .inr (.inl ⟨vs,SqT.of (x1.gh _ _ h1),by rw[q5R h2.len]⟩)
 | _=>cases e
noncomputable def blOf:D->Option Bool
 | .bl b=>some b
 | _=>none
noncomputable def zBY(f g:FD):FD:=λω=>(f ω).bind λd=>(blOf d).bind λc=>if c=true then g ω else some dM
noncomputable def vNot(f:FD):FD:=λω=>(f ω).bind λd=>(blOf d).map λc=>.bl (!c)
noncomputable def fIte(c:FT)(f g:FE):FE:=λω=>(c ω).bind λk=>if k=true then f ω else g ω
variable{fa fb:FD}
theorem q36{op}(h:XD X a fa):XD X Ul fa:=let ⟨t,h1,h2⟩:=h;⟨t,qiv h1,h2⟩
theorem q1m(h:XD X a fa)(h':XD X mm fb):XD X k8 (zBY fa fb):=by
 obtain⟨t,h1,h2⟩:=h;obtain⟨u,h3,h4⟩:=h';refine⟨_,qiw h1 h3,fI⟩;obtain⟨x,q,e⟩:=bnd e;obtain⟨c,q2,e2⟩:=bnd e;clear e;refine h2 G0 H0 G ω σ H x _ o q λv G1 H1 x1 y1=>?_;cases x with
 | bl z=>
  cases q2;cases (show v=V.bl c from y1);refine⟨c,rfl,?_⟩;cases c with
  | true=>rw[lg]at e2 ⊢;exact h4 G0 H0 G1 ω σ H1 d Q iN e2 λv G2 H2 x2 y2=>k v G2 H2 eO y2
  | false=>cases e2;exact k _ G1 H1 x1 rfl
 | _=>cases q2
theorem qdS(h:XD X a fa):XD X rQ (vNot fa):=by
 obtain⟨t,h1,h2⟩:=h;refine⟨_,qiD h1,fI⟩;obtain⟨x,q,e⟩:=bnd e;obtain⟨c,q2,e⟩:=mpd e;subst e;refine h2 G0 H0 G ω σ H x _ o q λv G1 H1 x1 y1=>?_;cases x with
 | bl z=>cases q2;cases (show v=V.bl c from y1);exact⟨c,rfl,Mw⟩
 | _=>cases q2
theorem zCi.after{K:zC}{G H G1 H1 G2 H2:Hp}{r:R}{v:V}(x:Ext G H G1 H1)(y:zCi K H1 G2 H2 r v):zCi K H G2 H2 r v:=by
 cases r with
 | sh d=>exact y
 | fr ds=>obtain⟨l,vs,e1,e2,e3⟩:=y;exact⟨l,vs,e1,x.hh.free e2,e3⟩
 | vw ds=>exact y
theorem qdh{fc:FT}{f g:FE}(hc:XT X c fc)(ha:XE X a f)(hb:XE X b g):XE X aaw (fIte fc f g):=by
 obtain⟨t,h1,h2⟩:=hc;obtain⟨u,h3,h4⟩:=ha;obtain⟨w,h5,h6⟩:=hb;refine⟨_,qfq h1 h3 h5,b8⟩;obtain⟨z,q,e⟩:=bnd e;refine h2 G0 H0 G ω σ H z _ o q λG1 H1 x1=>?_;cases z with
 | true=>rw[lg]at e ⊢;exact h4 G0 H0 G1 ω σ H1 r Q iN e λv G2 H2 x2 y2=>k v G2 H2 eO O7
 | false=>exact h6 G0 H0 G1 ω σ H1 r Q iN e λv G2 H2 x2 y2=>k v G2 H2 eO O7
end
def zAM(K:zC)(r:HF)(op:MJ):Prop:=∀G H ds vs d(Q:VK),XL G H->op ds=some d->VwA K G H ds vs ->
 (∀w G' H',Ext G H G' H'->zCi K H G' H' d w->Q w H')->r vs H Q
noncomputable def WF(op:MJ)(g:FA):FE:=λω=>(g ω).bind op
section
variable{X:Cx}{e:vW}{es:List vW}{x:Str}{p pos:Pos}{r:List V->Hp->VK->Prop}{op:List D->Option R}{g:FA}{id T:String}
theorem q7c{t:TA}(hd:SN)(h:SimVA X.K t g):zCV X.K acC add:=by
 intro G0 H0 G ω σ H d Q o e k;obtain⟨ds,q,e⟩:=bnd e;refine h G0 H0 G ω σ H ds _ o q λvs G1 H1 x1 y1=>?_;exact hd G1 H1 ds vs d Q x1.gh e y1 λw G2 H2 x2 y2=>k w G2 H2 eO O7
theorem qA(hc:WM X jW r)(hd:SN)(hg:Bz)(hm:AQ)(hv:vn x=some jW)(ha:XVA X kw g)(hn:kQ:= by decide)(hdb:aM:=by decide)(he:aS:=by rfl)(hpl:(vo pos iV).any (·.1)=false:=by rfl):XE X cY add:=by
 obtain⟨t,h1,h2⟩:=ha;exact⟨_,q2a hc hg hm hv h1 hn hdb he hpl,q7c hd h2⟩
theorem qgD(hc:WM X BA r)(hd:SN)(hg:Bz)(hm:AQ)(hv:vn x=some BA)(ha:XVA X kw g)(hn:kQ:= by decide)(hdb:aM:=by decide)(he:aS:=by rfl)(hpl:(vo pos iV).any (·.1)=false:=by rfl):XE X cY add:=by
 obtain⟨t,h1,h2⟩:=ha;exact⟨_,q8d hc hg hm hv h1 hn hdb he hpl,q7c hd h2⟩
theorem VwA.one{K:zC}{G H:Hp}{d:D}{vs:bg}(h:VwA K G H [d] vs):∃v,vs=[v]/\Vw K G H d v:=by
 obtain⟨v,r,h1,h2,h3⟩:=h;cases (show r=[]from h3);exact QI
theorem VwA.two{K:zC}{G H:Hp}{d e:D}{vs:bg}(h:VwA K G H [d,e] vs):∃v u,vs=[v,u]/\Vw K G H d v/\Vw K G H e u:=by
 obtain⟨v,r,h1,h2,h3⟩:=h;obtain⟨u,rfl,h4⟩:=VwA.one h3;exact abh
noncomputable def zAN:List D->Option R
 | [.lst ds]=>↥Dy
 | [.tup ds]=>↥Dy
 | [.scr ns]=>↥acb
 | _=>none
theorem q08{K:zC}:zAM K (λxs H Q=>∃p ys,xs=TC/\MF/\Q E7 H) zAN:=by
 intro G H ds vs d Q s e hv k
 match ds,e with
 | [.lst ds],e=>
  cases e;obtain⟨v,rfl,h⟩:=hv.one;obtain⟨p,us,rfl,h1,h2⟩:=h.lst s;exact⟨p,us,rfl,.inl Ke,k _ G H dZ (by show V.int _=V.int _;rw[h2.len])⟩
 | [.tup ds],e=>
  cases e;obtain⟨v,rfl,h⟩:=hv.one;obtain⟨p,us,rfl,h1,h2⟩:=h.tup;exact⟨p,us,rfl,.inr FV,k _ G H dZ (by show V.int _=V.int _;rw[h2.len])⟩
 | [.scr ns],e=>
  cases e;obtain⟨v,rfl,h⟩:=hv.one;obtain⟨p,rfl,h1⟩:=h.scr;exact⟨p,_,rfl,.inl (s.seq h1),k _ G H dZ (by show V.int _=V.int _;rw[zB])⟩
noncomputable def zCe:List D->Option R
 | [.int i]=>↥(.int (if i<0 then -i else i))
 | _=>none
theorem q9q{K:zC}:zAM K (λxs H Q=>∃i,xs=[iR]/\Q (.int (if i<0 then -i else i)) H) zCe:=by
 intro G H ds vs d Q s e hv k
 match ds,e with
 | [.int i],e=>
  cases e;obtain⟨v,rfl,h⟩:=hv.one;cases h.int;exact⟨i,rfl,nQ⟩
noncomputable def zB8:List D->Option R
 | [.lst ds]=>some DH
 | [.tup ds]=>some DH
 | _=>none
theorem qb0{K:zC}:zAM K (λxs H Q=>∃p ys,xs=TC/\MF/\∀l,H l=none->Q cM QT) zB8:=by
 intro G H ds vs d Q s e hv k
 match ds,e with
 | [.lst ds],e=>
  cases e;obtain⟨v,rfl,h⟩:=hv.one;obtain⟨p,us,rfl,h1,h2⟩:=h.lst s;exact⟨p,us,rfl,.inl Ke,oN⟩
 | [.tup ds],e=>
  cases e;obtain⟨v,rfl,h⟩:=hv.one;obtain⟨p,us,rfl,h1,h2⟩:=h.tup;exact⟨p,us,rfl,.inr FV,oN⟩
noncomputable def allB:List D->Option Bool
 | []=>some true
 | .bl b::r=>(allB r).map λc=>b&&c
 | _=>none
noncomputable def zAm:List D->Option R
 | [.lst ds]=>(allB ds).map λb=>.sh Ni
 | _=>none
noncomputable def zDF:List D->Option Int
 | []=>some 0
 | .int i::r=>(zDF r).map λc=>i+c
 | _=>none
noncomputable def bSum:List D->Option R
 | [.lst ds]=>(zDF ds).map λb=>.sh eu
 | _=>none
end
def rAll:List V->Hp->VK->Prop:=λxs H Q=>∃(p:vF) (bs:Si),xs=TC/\H p=some (.lst (bs.map V.bl))/\Q (.bl (bs.all id)) H
def rSum:List V->Hp->VK->Prop:=λxs H Q=>∃(p:vF) (ns:af),xs=TC/\H p=some HQ/\Q (.int ns.sum) H
section
variable{X:Cx}
theorem qb6:∀{bs:Si}{us:bu},Xf (bs.map V.bl) us->us=bs.map Value.bool
 | [],_,r=>by cases r;rfl
 | b::bs,_,r=>by
  rw[zZ]at r;cases r with
  | cons r1 r2=>cases r1;rw[qb6 r2];rfl
theorem qe5{bs:Si}:(zo bs.length).all SJ=bs.all id:=by
 induction bs with
 | nil=>rfl
 | cons b r ih=>
  rw[zJ,ZY,Zy,List.all_map,Zy];have e:((λi=>(b::r).getD i false) ∘ Nat.succ)=λi=>r.getD i false:=by funext i;rfl
  rw[e,ih];rfl
theorem q1a(hc:cV):WM X acg rAll:=by
 intro pins s σ H xs us Q I r h;obtain⟨p,bs,rfl,hp,q⟩:=h;obtain⟨u,rfl,rx⟩:=vals1 r;cases rx;obtain⟨its,n,rv,e,hz⟩:=I.lst hp;have ei:=qb6 rv;have hlt:p<s.heap.objs.size:=zN e;refine call_all_walk Ku;refine⟨s.heap.objs.size,_,_,its.toArray.size,_,_,SJ,rfl,Walks.list (by first|exact I.ok.hd hc|(show X.A.handled=none;exact I.ok.hd hc)) _ p Nr its.toArray,Km,λi v s' Q' E' hv hq=>?_,λh' tk hk=>?_⟩
 ·have hv':its[i]?=some v:=by simpa using hv
  rw[ei,zP]at hv';cases eb:bs[i]? with
  | none=>rw[eb]at hv';cases hv'
  | some b=>
   rw[eb]at hv';cases hv';have:bs.getD i false=b:=by rw[zX,eb];rfl
   have hq':Q' b s':=by rw[<- this];exact hq
   exact uY hq'
 ·have hl:its.toArray.size=bs.length:=by rw[zQ,ei,zB]
  rw[hl,qe5];exact⟨.bl _,H,I.kept (λb o z=>hk b o (λhm=>by
   have:b=s.heap.objs.size:=by simpa using hm
   subst this;exact vP (zN z) Jn) (zE _ z)),rfl,q⟩
theorem qaQ:∀{ds:aY}{b:Bool},allB ds=some b->∃bs:List Bool,ds=bs.map D.bl/\bs.all id=b
 | [],_,e=>by cases e;exact adM
 | .bl c::r,b,e=>by
  obtain⟨k,q,e⟩:=mpd e;obtain⟨bs,h1,h2⟩:=qaQ q;exact⟨c::bs,by rw[h1];rfl,by rw[Zy,h2];exact e⟩
 | .non::_,_,e=>by cases e
 | .int _::_,_,e=>by cases e
 | .str _::_,_,e=>by cases e
 | .lst _::_,_,e=>by cases e
 | .tup _::_,_,e=>by cases e
 | .scr _::_,_,e=>by cases e
 | .exc _::_,_,e=>by cases e
 | .dic _ _::_,_,e=>by cases e
theorem qb3:∀{ds:aY}{b:Int},zDF ds=some b->∃bs:List Int,ds=bs.map D.int/\bs.sum=b
 | [],_,e=>by cases e;exact adM
 | .int c::r,b,e=>by
  obtain⟨k,q,e⟩:=mpd e;obtain⟨bs,h1,h2⟩:=qb3 q;exact⟨c::bs,by rw[h1];rfl,by rw[z8,h2];exact e⟩
 | .non::_,_,e=>by cases e
 | .bl _::_,_,e=>by cases e
 | .str _::_,_,e=>by cases e
 | .lst _::_,_,e=>by cases e
 | .tup _::_,_,e=>by cases e
 | .scr _::_,_,e=>by cases e
 | .exc _::_,_,e=>by cases e
 | .dic _ _::_,_,e=>by cases e
theorem qbn{K:zC}{H:Hp}:∀{bs:Si}{vs:bg},XB K H (bs.map D.bl) vs->vs=bs.map V.bl
 | [],_,h=>h
 | n::r,_,⟨v,vs,h1,h2,h3⟩=>by
  have:=qbn h3;have e:v=.bl n:=h2;rw[h1,this,e];rfl
theorem q34{K:zC}:zAM K rAll zAm:=by
 intro G H ds vs d Q s e hv k
 match ds,e with
 | [.lst ds],e=>
  obtain⟨b,q,e⟩:=mpd e;subst e;obtain⟨bs,rfl,rfl⟩:=qaQ q;obtain⟨v,rfl,h⟩:=hv.one;obtain⟨p,us,rfl,h1,h2⟩:=h.lst s;exact⟨p,bs,rfl,by rw[h1,qbn h2],nQ⟩
theorem q6F:∀(ns:af)(k:Nat),k<=ns.length->preSum iU k=(ns.take k).sum
 | _,0,_=>rfl
 | ns,k+1,h=>by
  have e:ns.take (k+1)=ns.take k++[ns.getD k 0]:=by
   rw[YI,zA ∅,zX,zA ∅];rfl
  show preSum iU k+ns.getD k 0=_;rw[q6F ns k ∅,e,xt];simp
theorem q7L(hc:cV):WM X ace rSum:=by
 intro pins s σ H xs us Q I r h;obtain⟨p,ns,rfl,hp,q⟩:=h;obtain⟨u,rfl,rx⟩:=vals1 r;cases rx;obtain⟨its,n,rv,e,hz⟩:=I.lst hp;have ia:=q2O rv;have hlen:its.length=ns.length:=by rw[<- rv.length,zB]
 have hlt:p<s.heap.objs.size:=zN e;refine call_sum_walkAnyS Ku;refine⟨s.heap.objs.size,_,_,_,its.toArray.size,_,_,iU,rfl,(Walks.list (by first|exact I.ok.hd hc|(show X.A.handled=none;exact I.ok.hd hc)) _ p Nr its.toArray).toS,Km,kP,λi v hv=>PyProof.Rows.IntsAre.int_at ia i v ⇑hv,λs' t' hm=>?_⟩
 ·show b<(s.heap.push _).objs.size
  rw[yo];rcases zG.mp hb with rfl|hb
  ·exact yj _
  ·rw[zR.mp hb];exact yX hlt
 ·rw[MI]
  have es:preSum iU its.toArray.size=ns.sum:=by
   rw[zQ,hlen,q6F ns _ bX,xh]
  rw[es];exact⟨.int _,H,I.kept (λb o z=>hm.heap b o (λhmm=>by
   have:b=s.heap.objs.size:=by simpa using hmm
   subst this;exact vP (zN z) Jn) (zE _ z)),bD,q⟩
theorem qdF{K:zC}:zAM K rSum bSum:=by
 intro G H ds vs d Q s e hv k
 match ds,e with
 | [.lst ds],e=>
  obtain⟨b,q,e⟩:=mpd e;subst e;obtain⟨bs,rfl,rfl⟩:=qb3 q;obtain⟨v,rfl,h⟩:=hv.one;obtain⟨p,us,rfl,h1,h2⟩:=h.lst s;exact⟨p,bs,rfl,by rw[h1,h2.of_ints],nQ⟩
end
inductive Ty where
 | non|bl|int|str|lst|tup|dic
noncomputable def Ty.n:Ty->String
 | .non => "NoneType"
 | .bl => "bool"
 | .int => "int"
 | .str => "str"
 | .lst => "list"
 | .tup => "tuple"
 | .dic => "dict"
noncomputable def tyD:D->Ty
 | .non=>.non
 | .bl _=>.bl
 | .int _=>.int
 | .str _=>.str
 | .lst _=>.lst
 | .tup _=>.tup
 | .scr _=>.lst
 | .exc _=>.non
 | .dic _ _=>.non
noncomputable def zCU:Ty->Ty->Bool
 | .non,.non=>true
 | .bl,.bl=>true
 | .bl,.int=>true
 | .int,.int=>true
 | .str,.str=>true
 | .lst,.lst=>true
 | .tup,.tup=>true
 | _,_=>false
noncomputable def zBE(c:Ty)(f:FD):FE:=λω=>(f ω).bind λd=>match d with
 | .scr _=>none
 | .exc _=>none
 | .dic _ _=>none
 | d=>↥E9
def IsT(K:zC)(c:Ty):Prop:=∀t:Ty,t≠.dic->Zo K (.type t.n) (.type c.n)=some (zCU t c)
def rIsi(K:zC):List V->Hp->VK->Prop:=λxs H Q=>∃x c T b,xs=[x,.ty c]/\TyOf K H x BA/\Zo K BA (.type c)=some b/\Q Ni H
section
variable{X:Cx}{a:vW}{f:FD}
theorem qfe:WM X QD (rIsi X.K):=by
 intro pins s σ H xs us Q I r h;obtain⟨x,c,T,b,rfl,ty,e,q⟩:=h;obtain⟨u1,u2,rfl,r2,r3⟩:=vals2 r;cases (show u2=Value.type c from r3);exact qdf I r2 ty e λtk=>⟨Ni,H,I.tok tk,rfl,q⟩
theorem qil{K:zC}{G H:Hp}{d:D}{v:V}(h:Ll)(s:AF)(n:∀ns,d≠.scr ns)(n':∀c,d≠.exc c)(n'':∀ks ds,d≠.dic ks ds):TyOf K H v (.type (tyD d).n):=by
 cases d with
 | non=>cases h.non;exact .non
 | bl b=>cases h.bl;exact .bl b
 | int i=>cases h.int;exact .int i
 | str x=>cases h.str;exact .str x
 | lst ds=>obtain⟨p,us,rfl,h1,_⟩:=h.lst s;exact .lst h1
 | tup ds=>obtain⟨p,us,rfl,h1,_⟩:=h.tup;exact .tup jK
 | scr ns=>exact vP rfl (n ns)
 | exc c=>exact vP rfl (n' c)
 | dic ks ds=>exact vP rfl (n'' ks ds)
theorem qiW(d:D):tyD d≠.dic:=by cases d <;> exact λz=>nomatch z
theorem q0K{c:Ty}{x:Str}{p q pos:Pos}(ha:dS)(hk:IsT X.K c)(hg:Gl X "isinstance")(hm:X.mg "isinstance" = none)(hgc:Bz)(hmc:AQ)(hvc:vn x=some (.type c.n))(hnx:kQ:= by decide)(hdx:aM:=by decide)(he:vK [a,HR] X.env=cz::vK [HR] X.env:=by rfl)(he2:vK [HR] X.env=(false,eval HR X.env)::vK [] X.env:=by rfl)(hpl:(vo pos (vK [HR] X.env)).any (·.1)=false:=by rfl):
  XE X (.Call (.Name "isinstance" p) [a,HR] [] pos) (zBE c f):=by
 obtain⟨t,h1,h2⟩:=ha;refine⟨_,q2a qfe hg hm PyProof.Rows.boot_isinstance (qj h1 (qj (qhe hgc hmc hvc (v:=.ty c.n) rfl hnx hdx) qq he2) he) (by decide) (by decide) he hpl,b8⟩;obtain⟨d,q,e⟩:=bnd e;refine h2 G0 H0 G ω σ H d _ o q λv G1 H1 x1 y1=>?_;have n:∀ns,d≠.scr ns:=λns z=>by subst z;cases e
 have n':∀c,d≠.exc c:=λns z=>by subst z;cases e
 have n'':∀ks ds,d≠.dic ks ds:=λks ds z=>by subst z;cases e
 have e':r=.sh E9:=by
  cases d <;> first|(cases e;rfl)|cases e
 subst e';exact⟨v,c.n,(tyD d).n,zCU (tyD d) c,rfl,qil y1 x1.gh n n' n'',hk _ (qiW d),Mw⟩
end
inductive Out where
 | nx|bk|ct|rt (r:O)
noncomputable abbrev FS:=WSt->Option eX
def zBb(K:zC)(H0 G':Hp)(E:Ends):Out->St->Hp->Prop
 | .nx,σ,H=>E.nx σ H
 | .bk,σ,H=>E.bk σ H
 | .ct,σ,H=>E.ct σ H
 | .rt r,_,H=>∀v,zCi K H0 G' H r.r v->E.rt v H
def SimS(K:zC)(t:TS)(f:FS):Prop:=∀G0 H0 G ω σ H out ω'(E:Ends),Own K G0 H0 G ω σ H->f ω=some K7 ->
 (∀G' σ' H',Own K G0 H0 G' ω' σ' H'->XL G G'->zBb K H0.hp G' E out σ' H')->t E σ H
def XS(X:Cx)(st:vm)(f:FS):Prop:=∃t,PS X st t/\SimS X.K t f
def XSs(X:Cx)(st:pz)(f:FS):Prop:=∃t,PSs X st t/\SimS X.K t f
noncomputable def Wg:FS:=λω=>some DF
noncomputable def Xd(f g:FS):FS:=λω=>(f ω).bind λp=>match p.1 with
 | .nx=>g p.2
 | o=>some (o,p.2)
section
variable{X:Cx}{st:vm}{rest:List vm}{f g:FS}
theorem qC:XSs X [] Wg:=⟨_,q2U,λG0 H0 G ω σ H out ω' E o e k=>by cases e;exact k G σ H o dC⟩
theorem qc(h:XS X st f):XSs X [st] f:=let ⟨t,h1,h2⟩:=h;⟨t,qy h1,h2⟩
theorem qb(h:XS X st f)(h':XSs X rest g):XSs X VE (Xd f g):=by
 obtain⟨t,h1,h2⟩:=h;obtain⟨u,h3,h4⟩:=h';refine⟨_,ql h1 h3,bU⟩;obtain⟨⟨o1,ω1⟩,q,e⟩:=bnd e;refine h2 G0 H0 G ω σ H o1 ω1 _ o q λG1 σ1 H1 w1 g1=>?_;cases o1 with
 | nx=>exact h4 G0 H0 G1 ω1 σ1 H1 out ω' E w1 e λG2 σ2 H2 w2 g2=>k G2 σ2 H2 w2 Pn
 | bk=>cases e;exact k G1 σ1 H1 w1 g1
 | ct=>cases e;exact k G1 σ1 H1 w1 g1
 | rt r=>cases e;exact k G1 σ1 H1 w1 g1
end
section
variable{K:zC}{G0:Hp}{H0:Fr}{G:Hp}{ω:WSt}{σ:St}{H:Hp}
theorem qf{α:Type}{l:bH}{i j:Nat}{x y:α}(h:(l.set i x)[j]?=some y):(i=j/\i<l.length/\y=x)\/(i≠j/\l[j]?=some y):=by
 rw[List.getElem?_set]at h
 by_cases e:i=j
 ·rw[vH e]at h
  by_cases z:i<l.length
  ·rw[iP]at h;exact .inl ⟨e,z,(zr h).symm⟩
  ·rw[iw]at h;cases h
 ·rw[vJ e]at h;exact .inr ⟨e,h⟩
theorem q21{α:Type}{l:bH}{i:Nat}{x:α}(h:i<l.length):(l.set i x)[i]?=some x:=yV h
theorem X6.set{i:Nat}{w:dh}{v:jP}(o:kY)(hw:∀ds,w≠some (.pw ds))(hv:∀ds,w=some (.ow ds)->∀(j:Nat)es,ω[j]?=some mo->v≠some (.ref (H0.pin j))):X6 K H0 G (ω.set i w) (σ.set i v) H:=by
 intro j ds hj;rcases qf hj with⟨rfl,hl,z⟩|⟨ne,z⟩
 ·exact vP z.symm (hw ds)
 ·obtain⟨vs,h1,h2,h3,h4,h5,h6,h7⟩:=o j ds z
  refine⟨vs,by rw[Iw];exact h1,h2,h3,h4,h5,λk es hk=>?_,λk es hk sk=>?_⟩
  ·rcases qf hk with⟨rfl,hl',z'⟩|⟨ne',z'⟩
   ·exact vP z'.symm (hw es)
   ·exact h6 k es z'
  ·rcases qf hk with⟨rfl,hl',z'⟩|⟨ne',z'⟩
   ·rcases qf sk with⟨_,_,e⟩|⟨ne2,_⟩
    ·exact hv es z'.symm j ds z e.symm
    ·exact ne2 rfl
   ·rw[M0]at sk;exact h7 k es z' sk
theorem X6.setW{i:Nat}{w:dh}(o:kY)(hw:∀ds,w≠some (.pw ds))(ho:∀ds,w≠some (.ow ds)):X6 K H0 G (ω.set i w) σ H:=by
 intro j ds hj;rcases qf hj with⟨rfl,hl,z⟩|⟨ne,z⟩
 ·exact vP z.symm (hw ds)
 ·obtain⟨vs,h1,h2,h3,h4,h5,h6,h7⟩:=o j ds z
  refine BE
  ·rcases qf hk with⟨rfl,hl',z'⟩|⟨ne',z'⟩
   ·exact vP z'.symm (hw es)
   ·exact h6 k es z'
  ·rcases qf hk with⟨rfl,hl',z'⟩|⟨ne',z'⟩
   ·exact vP z'.symm (ho es)
   ·exact h7 k es z'
theorem X6.upd{p:vF}{ob:HO}(o:kY)(hp:∀(j:Nat)es,ω[j]?=some mo->H0.pin j≠p):X6 K H0 G ω σ (upd H p ob):=by
 intro j ds hj;obtain⟨vs,h1,h2,h3⟩:=o j ds hj;exact⟨vs,h1,by rw[qd (hp j ds hj)];exact h2,h3⟩
theorem X6.grow{p:vF}{ob:HO}(o:kY)(g:aar)(hp:∀(j:Nat)es,ω[j]?=some mo->H0.pin j≠p):X6 K H0 (L2.upd G p ob) ω σ H:=by
 intro j ds hj;obtain⟨vs,h1,h2,h3,h4,h5,h6⟩:=o j ds hj;exact⟨vs,h1,h2,by rw[qd (hp j ds hj)];exact h3,h4,h5.mono (Xr g _),h6⟩
theorem X6.ne_ow{i:Nat}{ds:aY}{l:vF}(o:kY)(hi:ω[i]?=some di)(hσ:σ[i]?=some DB):∀(j:Nat)es,ω[j]?=some mo->H0.pin j≠l:=λj es hj y=>by
 obtain⟨_,_,_,_,_,_,_,h7⟩:=o j es hj;exact h7 i ds hi (by rw[y];exact hσ)
theorem X6.ne_ob{l:vF}(o:kY)(h:∀vs,H l≠some gL):∀(j:Nat)es,ω[j]?=some mo->H0.pin j≠l:=λj es hj y=>by
 obtain⟨vs,_,h2,_⟩:=o j es hj;exact h vs (by rw[<- y];exact h2)
theorem X6.setL{i:Nat}{ds es:aY}(o:kY)(hi:ω[i]?=some di):X6 K H0 G (ω.set i Ew) σ H:=by
 intro j ds' hj;rcases qf hj with⟨rfl,hl,z⟩|⟨ne,z⟩
 ·cases z
 ·obtain⟨vs,h1,h2,h3,h4,h5,h6,h7⟩:=o j ds' z
  refine BE
  ·rcases qf hk with⟨rfl,hl',z'⟩|⟨ne',z'⟩
   ·cases z'
   ·exact h6 k es z'
  ·rcases qf hk with⟨rfl,hl',z'⟩|⟨ne',z'⟩
   ·exact h7 i ds hi
   ·exact h7 k es z'
theorem Own.od_set{i:Nat}{w:dh}{v:jP}(o:bT)(h:∀ks ds,w≠some (.od ks ds)):∀(j:Nat)ks ds,(ω.set i w)[j]?=some kb->∃p vs,(σ.set i v)[j]?=some bQ/\H p=some KI/\G p=none/\H0 p=none/\ks.length=ds.length/\XB K G ds vs /\
  ∀(k:Nat)ks' es,(ω.set i w)[k]?=some GW->(σ.set i v)[k]?=some bQ->j=k:=by
 intro j ks ds hj;rcases qf hj with⟨rfl,hl,z⟩|⟨ne,z⟩
 ·exact vP z.symm (h ks ds)
 ·obtain⟨p,vs,h1,h2,h3,h4,h5,h6,h7⟩:=o.od j ks ds z
  refine⟨p,vs,by rw[Iw];exact h1,h2,h3,h4,h5,h6,λk ks' es hk sk=>?_⟩;rcases qf hk with⟨rfl,hl',z'⟩|⟨ne',z'⟩
  ·exact vP z'.symm (h ks' es)
  ·rw[M0]at sk
   exact h7 k ks' es z' sk
theorem Own.setSh{i:Nat}{d:D}{v:V}(o:bT)(h:Rep K G d v):Own K G0 H0 G jO Ck H:=by
 refine⟨o.ext,by rw[yi,yi,o.len],ri,λj ds hj=>?_,λj k ds es l hj hk sj sk=>?_,o.od_set (λ_ _ z=>by cases z),o.pw.set (λ_ z=>by cases z) (λ_ z=>by cases z)⟩
 ·rcases qf hj with⟨rfl,hl,z⟩|⟨ne,z⟩
  ·cases z;exact⟨v,q21 (by rw[<- o.len];exact hl),h⟩
  ·obtain⟨u,h1,h2⟩:=o.sh j e z
   exact⟨u,by rw[Iw];exact h1,h2⟩
 ·rcases qf hj with⟨rfl,hl,z⟩|⟨ne,z⟩
  ·cases z
  ·obtain⟨l,vs,h1,h2⟩:=o.ow j ds z
   exact⟨l,vs,by rw[Iw];exact h1,h2⟩
 ·rcases qf hj with⟨rfl,hl,z⟩|⟨ne,z⟩
  ·cases z
  ·rcases qf hk with⟨rfl,hl',z'⟩|⟨ne',z'⟩
   ·cases z'
   ·rw[Iw]at sj
    rw[M0]at sk;exact o.nd j k ds es l z z' sj sk
theorem Own.setOw{i:Nat}{ds:aY}{l:vF}{vs:bg}(o:bT)(h1:H l=some gL)(h2:G l=none)(h3:H0 l=none)(h4:oi)(h5:∀(j:Nat)es,ω[j]?=some Ew->σ[j]?≠some DB)(h6:∀(j:Nat)es,ω[j]?=some mo->H0.pin j≠l):Own K G0 H0 G QN (σ.set i DB) H:=by
 refine⟨o.ext,by rw[yi,yi,o.len],ri,λj es hj=>?_,MY,o.od_set (λ_ _ z=>by cases z),o.pw.set (λ_ z=>by cases z) (λ_ _ j es hj y=>h6 j es hj (by cases y;rfl))⟩
 ·rcases qf hj with⟨rfl,hl,z⟩|⟨ne,z⟩
  ·cases z
  ·obtain⟨u,q1,q2⟩:=o.sh j e z
   exact⟨u,by rw[Iw];exact q1,q2⟩
 ·rcases qf hj with⟨rfl,hl,z⟩|⟨ne,z⟩
  ·cases z;exact⟨l,vs,q21 (by rw[<- o.len];exact hl),h1,h2,h3,h4⟩
  ·obtain⟨m,us,q1,q2⟩:=o.ow j es z
   exact⟨m,us,by rw[Iw];exact q1,q2⟩
 ·rcases qf hj with⟨e1,hl,z⟩|⟨ne,z⟩
  ·rcases qf hk with⟨e2,hl',z'⟩|⟨ne',z'⟩
   ·exact e1.symm.trans e2
   ·rw[M0]at sk
    subst e1;rw[q21 (by rw[<- o.len];exact hl)]at sj;cases sj;exact vP sk (h5 k fs z')
  ·rcases qf hk with⟨e2,hl',z'⟩|⟨ne',z'⟩
   ·rw[Iw]at sj
    subst e2;rw[q21 (by rw[<- o.len];exact hl')]at sk;cases sk;exact vP sj (h5 j es z)
   ·rw[Iw]at sj
    rw[M0]at sk;exact o.nd j k es fs m z z' sj sk
theorem Own.mut{i:Nat}{ds es:aY}{l:vF}{vs us:bg}(o:bT)(hi:ω[i]?=some di)(hσ:σ[i]?=some DB)(h1:H l=some gL)(h2:G l=none)(h3:H0 l=none)(h4:TR):
  Own K G0 H0 G (ω.set i Ew) σ (upd H l (.lst us)):=by
 have ho:i<ω.length:=(zt.mp hi).1;refine⟨Af,by rw[yi,o.len],ri,Jl,me,Me,(o.pw.upd (o.pw.ne_ow hi hσ)).setL hi⟩
 ·rcases qf hj with⟨rfl,hl,z⟩|⟨ne,z⟩
  ·cases z
  ·exact o.sh j e z
 ·rcases qf hj with⟨rfl,hl,z⟩|⟨ne,z⟩
  ·cases z;exact⟨l,us,hσ,qe,h2,h3,h4⟩
  ·obtain⟨m,ws,q1,q2,q3,q4,q5⟩:=o.ow j fs z
   have hm:m≠l:=λy=>ne (o.nd i j ds fs l hi z hσ (by rw[<- y];exact q1));exact⟨m,ws,q1,by rw[NG];exact q2,q3,q4,q5⟩
 ·rcases qf hj with⟨e1,hl,z⟩|⟨ne,z⟩
  ·rcases qf hk with⟨e2,hl',z'⟩|⟨ne',z'⟩
   ·exact e1.symm.trans e2
   ·subst e1;exact o.nd i k ds gs m hi z' sj sk
  ·rcases qf hk with⟨e2,hl',z'⟩|⟨ne',z'⟩
   ·subst e2;exact o.nd j i fs ds m z hi sj sk
   ·exact o.nd j k fs gs m z z' sj sk
 ·rcases qf hj with⟨e1,hl,z⟩|⟨ne,z⟩
  ·cases z
  ·obtain⟨p,ws,q1,q2,q3,q4,q5,q6,q7⟩:=o.od j ks fs z
   have hp:p≠l:=λy=>by rw[y,h1]at q2;cases q2
   refine⟨p,ws,q1,by rw[qd hp];exact q2,q3,q4,q5,q6,λk ks' es hk sk=>?_⟩;rcases qf hk with⟨e2,hl',z'⟩|⟨ne',z'⟩
   ·cases z'
   ·exact q7 k ks' es z' sk
theorem Own.setOd{i:Nat}{ks:af}{ds:aY}{p:vF}{vs:bg}(o:bT)(h1:H p=some KI)(h2:aar)(h3:H0 p=none)(h4:ks.length=ds.length)(h5:oi)(h6:∀(j:Nat)ks' es,ω[j]?=some GW->σ[j]?≠some bQ):Own K G0 H0 G (ω.set i kb) (σ.set i bQ) H:=by
 refine⟨o.ext,by rw[yi,yi,o.len],ri,λj es hj=>?_,MY,aco,o.pw.set (λ_ z=>by cases z) (λ_ z=>by cases z)⟩
 ·rcases qf hj with⟨rfl,hl,z⟩|⟨ne,z⟩
  ·cases z
  ·obtain⟨u,q1,q2⟩:=o.sh j e z
   exact⟨u,by rw[Iw];exact q1,q2⟩
 ·rcases qf hj with⟨rfl,hl,z⟩|⟨ne,z⟩
  ·cases z
  ·obtain⟨m,us,q1,q2⟩:=o.ow j es z
   exact⟨m,us,by rw[Iw];exact q1,q2⟩
 ·rcases qf hj with⟨e1,hl,z⟩|⟨ne,z⟩
  ·cases z
  ·rcases qf hk with⟨e2,hl',z'⟩|⟨ne',z'⟩
   ·cases z'
   ·rw[Iw]at sj
    rw[M0]at sk;exact o.nd j k es fs m z z' sj sk
 ·rcases qf hj with⟨rfl,hl,z⟩|⟨ne,z⟩
  ·cases z
   refine⟨p,vs,q21 (by rw[<- o.len];exact hl),h1,h2,h3,h4,h5,λk ks'' fs hk sk=>?_⟩;rcases qf hk with⟨e2,hl',z'⟩|⟨ne',z'⟩
   ·exact e2
   ·rw[M0]at sk
    exact vP sk (h6 k ks'' fs z')
  ·obtain⟨p',vs',q1,q2,q3,q4,q5,q6,q7⟩:=o.od j ks' es z
   refine⟨p',vs',by rw[Iw];exact q1,q2,q3,q4,q5,q6,λk ks'' fs hk sk=>?_⟩;rcases qf hk with⟨e2,hl',z'⟩|⟨ne',z'⟩
   ·subst e2
    rw[q21 (by rw[<- o.len];exact hl')]at sk;cases sk;exact vP q1 (h6 j ks' es z)
   ·rw[M0]at sk
    exact q7 k ks'' fs z' sk
theorem Own.mutD{i:Nat}{ks ks2:af}{ds es:aY}{p:vF}{vs us:bg}(o:bT)(hi:ω[i]?=some kb)(hσ:σ[i]?=some bQ)(h1:H p=some KI)(h2:aar)(h3:H0 p=none)(h4:ks2.length=es.length)(h5:TR):
  Own K G0 H0 G (ω.set i (some (.od ks2 es))) σ (upd H p (.dK (kvsOf ks2 us))):=by
 have ho:i<ω.length:=(zt.mp hi).1;refine⟨Af,by rw[yi,o.len],ri,Jl,me,λj ks' fs hj=>?_,(o.pw.upd (o.pw.ne_ob λvs z=>by rw[h1]at z;cases z)).setW (λ_ z=>by cases z) (λ_ z=>by cases z)⟩
 ·rcases qf hj with⟨rfl,hl,z⟩|⟨ne,z⟩
  ·cases z
  ·exact o.sh j e z
 ·rcases qf hj with⟨rfl,hl,z⟩|⟨ne,z⟩
  ·cases z
  ·obtain⟨m,ws,q1,q2,q3,q4,q5⟩:=o.ow j fs z
   have hm:m≠p:=λy=>by rw[y,h1]at q2;cases q2
   exact⟨m,ws,q1,by rw[NG];exact q2,q3,q4,q5⟩
 ·rcases qf hj with⟨e1,hl,z⟩|⟨ne,z⟩
  ·cases z
  ·rcases qf hk with⟨e2,hl',z'⟩|⟨ne',z'⟩
   ·cases z'
   ·exact o.nd j k fs gs m z z' sj sk
 ·obtain⟨p0,vs0,r1,r2,r3,r4,r5,r6,r7⟩:=o.od i ks ds hi
  rw[hσ]at r1;cases r1;rcases qf hj with⟨rfl,hl,z⟩|⟨ne,z⟩
  ·cases z
   refine⟨p,us,hσ,qe,h2,h3,h4,h5,λk ks'' gs hk sk=>?_⟩;rcases qf hk with⟨e2,hl',z'⟩|⟨ne',z'⟩
   ·exact e2
   ·exact r7 k ks'' gs z' sk
  ·obtain⟨q,ws,q1,q2,q3,q4,q5,q6,q7⟩:=o.od j ks' fs z
   have hp:q≠p:=λy=>ne (r7 j ks' fs z (by rw[<- y];exact q1));refine⟨q,ws,q1,by rw[qd hp];exact q2,q3,q4,q5,q6,λk ks'' gs hk sk=>?_⟩;rcases qf hk with⟨e2,hl',z'⟩|⟨ne',z'⟩
   ·subst e2
    rw[hσ]at sk;cases sk;exact vP rfl hp
   ·exact q7 k ks'' gs z' sk
noncomputable def share(i:Nat)(ω:WSt):WSt:=match ω[i]? with
 | some (some (.ow ds))=>ω.set i ↥fQ
 | some (some (.od ks ds))=>ω.set i ↥El
 | _=>ω
theorem Own.share(i:Nat)(o:bT):(∃G',XL G G'/\Own K G0 H0 G' Q3 σ H)\/∃p kvs,σ[i]?=some bQ/\H p=some cj/\∀ob,∃G',XL G G'/\Own K G0 H0 G' Q3 σ DM:=by
 unfold Hk.share;cases q:ω[i]? with
 | none=>exact .inl KP
 | some w=>
  cases w with
  | none=>exact .inl KP
  | some w=>
   cases w with
   | sh d=>exact .inl KP
   | pw ds=>exact .inl KP
   | ow ds=>
    obtain⟨l,vs,q1,q2,q3,q4,q5⟩:=o.ow i ds q;have s1:XL G (upd G l gL):=Xr q3 _;have ho:i<ω.length:=(zt.mp q).1;refine .inl ⟨upd G l gL,s1,⟨acN,Kq,o.ext.hh,Jm⟩,by rw[yi,o.len],ri,Jl,me,Me,(o.pw.grow q3 (o.pw.ne_ow q q1)).setW (λ_ z=>by cases z) (λ_ z=>by cases z)⟩
    ·by_cases hb:b=l
     ·subst hb;rw[qe]at z;rw[q2];exact z
     ·rw[qd hb]at z;exact o.ext.gh b u z
    ·rw[qd (λhb=>z2 (by rw[hb];exact q4))];exact o.ext.new b z1 z2
    ·rcases qf hj with⟨rfl,hl,z⟩|⟨ne,z⟩
     ·cases z;exact⟨_,q1,l,vs,rfl,qe,q5.mono s1⟩
     ·obtain⟨u,r1,r2⟩:=o.sh j e z
      exact Ut
    ·rcases qf hj with⟨rfl,hl,z⟩|⟨ne,z⟩
     ·cases z
     ·obtain⟨m,ws,r1,r2,r3,r4,r5⟩:=o.ow j fs z
      have hm:m≠l:=λy=>ne (o.nd i j ds fs l q z q1 (by rw[<- y];exact r1));exact⟨m,ws,r1,r2,by rw[NG];exact r3,r4,r5.mono s1⟩
    ·rcases qf hj with⟨e1,hl,z⟩|⟨ne,z⟩
     ·cases z
     ·rcases qf hk with⟨e2,hl',z'⟩|⟨ne',z'⟩
      ·cases z'
      ·exact o.nd j k fs gs m z z' sj sk
    ·rcases qf hj with⟨e1,hl,z⟩|⟨ne,z⟩
     ·cases z
     ·obtain⟨m,ws,r1,r2,r3,r4,r5,r6,r7⟩:=o.od j ks fs z
      have hm:m≠l:=λy=>by rw[y,q2]at r2;cases r2
      refine⟨m,ws,r1,r2,by rw[NG];exact r3,r4,r5,r6.mono s1,λk ks' es hk sk=>?_⟩;rcases qf hk with⟨e2,hl',z'⟩|⟨ne',z'⟩
      ·cases z'
      ·exact r7 k ks' es z' sk
   | od ks0 ds=>
    obtain⟨l,vs,q1,q2,q3,q4,q6,q5,q7⟩:=o.od i ks0 ds q;refine .inr ⟨l,_,q1,q2,λob=>?_⟩;have s1:XL G Fx:=Xr q3 _;have ho:i<ω.length:=(zt.mp q).1;refine⟨Fx,s1,⟨acN,zAj o.ext.gh _,Xe o.ext.hh q4 _,Jm⟩,by rw[yi,o.len],ri,Jl,me,Me,((o.pw.upd (o.pw.ne_ob λvs z=>by rw[q2]at z;cases z)).grow q3 (o.pw.ne_ob λvs z=>by rw[q2]at z;cases z)).setW (λ_ z=>by cases z) (λ_ z=>by cases z)⟩
    ·rw[qd (λhb=>z2 (by rw[hb];exact q4))];exact o.ext.new b z1 z2
    ·rcases qf hj with⟨rfl,hl,z⟩|⟨ne,z⟩
     ·cases z;exact⟨_,q1,l,vs,rfl,⟨ob,qe⟩,q6,q5.mono s1⟩
     ·obtain⟨u,r1,r2⟩:=o.sh j e z
      exact Ut
    ·rcases qf hj with⟨rfl,hl,z⟩|⟨ne,z⟩
     ·cases z
     ·obtain⟨m,ws,r1,r2,r3,r4,r5⟩:=o.ow j fs z
      have hm:m≠l:=λy=>by rw[y,q2]at r2;cases r2
      exact⟨m,ws,r1,by rw[NG];exact r2,by rw[NG];exact r3,r4,r5.mono s1⟩
    ·rcases qf hj with⟨e1,hl,z⟩|⟨ne,z⟩
     ·cases z
     ·rcases qf hk with⟨e2,hl',z'⟩|⟨ne',z'⟩
      ·cases z'
      ·exact o.nd j k fs gs m z z' sj sk
    ·rcases qf hj with⟨e1,hl,z⟩|⟨ne,z⟩
     ·cases z
     ·obtain⟨m,ws,r1,r2,r3,r4,r5,r6,r7⟩:=o.od j ks fs z
      have hm:m≠l:=λy=>ne (q7 j ks fs z (by rw[<- y];exact r1));refine⟨m,ws,r1,by rw[NG];exact r2,by rw[NG];exact r3,r4,r5,r6.mono s1,λk ks' es hk sk=>?_⟩;rcases qf hk with⟨e2,hl',z'⟩|⟨ne',z'⟩
      ·cases z'
      ·exact r7 k ks' es z' sk
end
theorem Inv.freeze{X:Cx}{pins:aD}{σ:St}{H:Hp}{s:vC}{p:vF}{kvs:eV}(I:au)(hp:H p=some cj):∃ob,Inv X pins σ DM s:=by
 have ok:=I.hok p _ hp;obtain⟨_,_,_,_,ob,_,_,e,_⟩:=id ok;have stay:∀b u,Xg X.prog X.w H s.heap b u->Xg X.prog X.w DM s.heap b u:=λb u x=>
  x.stay O2 (λc q=>by rw[qd (λz=>by rw[z,hp]at q;cases q)];exact q) λc xs q=>by rw[qd (λz=>by rw[z,hp]at q;cases q)];exact q
 refine⟨ob,I.step (H':=upd H p jm) (h':=s.heap) (g':=s.gens) (d':=s.drawn) (t':=s.toks) (ch:=[]) (λ_ z=>nomatch z) (λ_ _ _ _ _ e _=>e) (λ_ o _ _ _ e _=>⟨o.slots,e⟩) (λb o _ _ n=>by rw[qd (λz=>by rw[z,hp]at n;cases n)];exact n) (λ_ o _ e=>Ir)
  (λb xs q=>by rw[qd (λz=>by rw[z,hp]at q;cases q)];exact q) (λb o u q=>by rw[qd (λz=>by rw[z,hp]at q;cases q)];exact q) (λb ps q=>⟨#[],by rw[qd (λz=>by rw[z,hp]at q;cases q),q];simp⟩) (λ_ hm=>hm) (λb u q=>?_) I.bare⟩
 by_cases z:b=p
 ·subst z
  rw[qe]at q;cases q;exact⟨e,stay _ _ ok⟩
 ·rw[qd z]at q
  exact stay b u (I.hok b u q)
theorem q4b{X:Cx}{sts:pz}{t:TS}(i:Nat)(h:PSs X sts t):PSs X sts (λD σ H=>∃p kvs,σ[i]?=some bQ/\H p=some cj/\∀ob,t D σ DM):=by
 intro pins s σ H D I q;obtain⟨p,kvs,_,hp,q⟩:=q;obtain⟨ob,I'⟩:=Inv.freeze I hp;exact h pins s σ _ D I' (q ob)
noncomputable def X5(i:Nat)(f:FS):FS:=λω=>f Q3
theorem qW{X:Cx}{sts:pz}{f:FS}(i:Nat)(h:XSs X sts f):XSs X sts (X5 i f):=by
 obtain⟨t,h1,h2⟩:=h;refine⟨λD σ H=>t D σ H\/∃p kvs,σ[i]?=some bQ/\H p=some cj/\∀ob,t D σ DM,λpins s σ H D I q=>?_,λG0 H0 G ω σ H out ω' E o e k=>?_⟩
 ·rcases q with q|q
  ·exact h1 pins s σ H D I q
  ·exact q4b i h1 pins s σ H D I q
 ·rcases o.share i with⟨G1,g1,o1⟩|⟨p,kvs,z1,z2,z3⟩
  ·exact .inl (h2 G0 H0 G1 _ σ H out ω' E o1 e λG2 σ2 H2 w2 g2=>k G2 σ2 H2 w2 Pn)
  ·refine .inr ⟨p,kvs,z1,z2,λob=>?_⟩
   obtain⟨G1,g1,o1⟩:=z3 ob;exact h2 G0 H0 G1 _ σ _ out ω' E o1 e λG2 σ2 H2 w2 g2=>k G2 σ2 H2 w2 Pn
noncomputable def setR(i:Nat)(r:R)(ω:WSt):Option WSt:=match r with
 | .sh d=>some jO
 | .fr ds=>some QN
 | .vw _=>none
noncomputable def Xt(i:Nat)(f:FE):FS:=λω=>(f ω).bind λr=>(setR i r ω).map λw=>KH
section
variable{X:Cx}{e:vW}{f:FE}{pos pos':Pos}
theorem qbZ{i:Nat}{t:TE}(h:zCV X.K t f):SimS X.K (We t aaf) (Xt i f):=by
 intro G0 H0 G ω σ H out ω' E o e k;obtain⟨r,q,e⟩:=bnd e;obtain⟨w,q2,e⟩:=mpd e;cases e;refine h G0 H0 G ω σ H r _ o q λv G1 H1 x1 y1=>?_;have o1:=o.keep x1;show E.nx Ck H1;cases r with
 | sh d=>cases q2;exact k G1 _ H1 (o1.setSh y1) x1.gg
 | fr ds=>
  cases q2;obtain⟨l,vs,rfl,e2,e3,e4,e5⟩:=y1;refine k G1 _ H1 (o1.setOw e4 e3 abL e5 (λj es hj z=>?_) λj es hj y=>?_) x1.gg
  ·obtain⟨m,us,q1,q2,_⟩:=o.ow j es hj
   rw[q1]at z;cases z;rw[e2]at q2;cases q2
  ·obtain⟨us,_,q2,_⟩:=o.pw j es hj
   rw[y,e2]at q2;cases q2
 | vw ds=>cases q2
theorem qo{i:Nat}{x:Str}(hN:X.N.Nodup)(hi:X.N[i]?=some x)(hx:fq)(he:XE X e f)(hs:mP:=by rfl)(hf:aN:=by first|exact .inl rfl|exact .inr rfl|assumption):
  XS X nh (Xt i f):=let ⟨_,h1,h2⟩:=he;⟨_,VJ,qbZ h2⟩
noncomputable abbrev FG:=D->WSt->Option WSt
def SimG(K:zC)(g:TG)(fg:FG):Prop:=∀G0 H0 G ω σ H d v ω'(Q:gJ),Own K G0 H0 G ω σ H->fg d ω=some ω'->Rep K G d v->(∀σ',Own K G0 H0 G ω' σ' H->Q σ' H)->g v σ H Q
def XG(X:Cx)(tg:vW)(fg:FG):Prop:=∃g,PG X tg g/\SimG X.K g fg
noncomputable def gN(i:Nat):FG:=λd ω=>some jO
theorem qg{i:Nat}{x:Str}(hN:X.N.Nodup)(hi:X.N[i]?=some x)(hx:fq)(hf:aN:=by first|exact .inl rfl|exact .inr rfl|assumption):XG X jd R1 :=
 ⟨_,q0S hN hi hx hf,λG0 H0 G ω σ H d v ω' Q o e h k=>by cases e;exact k _ (o.setSh h)⟩
def SimGs(K:zC)(g:TGs)(fg:dN):Prop:=∀G0 H0 G ω σ H ds vs ω'(Q:gJ),Own K G0 H0 G ω σ H->fg ds ω=some ω'->XB K G ds vs->(∀σ',Own K G0 H0 G ω' σ' H->Q σ' H)->g vs σ H Q
def XGs(X:Cx)(tg:jw)(fg:dN):Prop:=∃g,PGs X tg g/\SimGs X.K g fg
noncomputable def X3:List D->WSt->Option WSt
 | [],ω=>some ω
 | _,_=>none
noncomputable def XQ(f:FG)(g:dN):List D->WSt->Option WSt
 | d::ds,ω=>(f d ω).bind λw=>g ds w
 | [],_=>none
theorem q1C:XGs X [] X3:=⟨_,qbB,λG0 H0 G ω σ H ds vs ω' Q o e h k=>by
 cases ds with
 | nil=>cases e;cases (show vs=[]from h);exact⟨rfl,k σ o⟩
 | cons d r=>cases e⟩
theorem qE{es:jw}{fg:FG}{gs:dN}(h:XG X e fg)(h':XGs X es gs)(hs:(uZ kw X.env).map (·.2)=assign e X.env::(uZ es X.env).map (·.2):=by rfl):XGs X kw (XQ fg gs):=by
 obtain⟨g,h1,h2⟩:=h;obtain⟨u,h3,h4⟩:=h';refine⟨_,q60 h1 h3 hs,λG0 H0 G ω σ H ds vs ω' Q o e h k=>?_⟩;cases ds with
 | nil=>cases e
 | cons d r=>
  obtain⟨w1,q,e1⟩:=bnd e;obtain⟨v,vr,rfl,r1,r2⟩:=h;exact⟨v,vr,rfl,h2 G0 H0 G ω σ H d v w1 _ o q r1 λσ1 o1=>h4 G0 H0 G w1 σ1 H r vr ω' Q o1 e1 r2 k⟩
noncomputable def gT(n:Nat)(g:dN):FG:=λd ω=>match d with
 | .tup ds=>if ds.length=n then g ds ω else none
 | _=>none
theorem q2r{es:jw}{k n:Nat}{gs:dN}(hc:cV)(h:XGs X es gs)(hn:Uo:=by rfl)(hst:(uZ es X.env).findIdx? (·.1)=none:=by rfl):XG X abc (gT n gs):=by
 obtain⟨g,h1,h2⟩:=h;refine⟨_,qdp hc h1 hn hst,λG0 H0 G ω σ H d v ω' Q o e h k=>?_⟩;unfold gT at e;cases d with
 | tup ds=>
  dsimp only at e
  obtain⟨a,vs,rfl,r1,r2⟩:=h
  by_cases z:ds.length=n
  ·rw[iP]at e
   exact⟨a,vs,rfl,SqT.of (o.gh _ _ r1),by rw[<- r2.len];exact z,h2 G0 H0 G ω σ H ds vs ω' Q o e r2 k⟩
  ·rw[iw]at e;cases e
 | _=>cases e
noncomputable def sAsg(f:FD)(g:FG):FS:=λω=>(f ω).bind λd=>(g d ω).map λw=>KH
theorem qjw{tg:vW}{fd:FD}{fg:FG}(he:XD X e fd)(hg:XG X tg fg)(hs:Dj:=by rfl)(hw:IB:=by rfl)(h1:(uZ [tg] X.env).map (·.2)=ac3:=by rfl):XS X Um (sAsg fd fg):=by
 obtain⟨t,p1,p2⟩:=he;obtain⟨g,p3,p4⟩:=hg;refine⟨_,qjp p1 p3 hs hw h1,bU⟩;obtain⟨d,q,e⟩:=bnd e;obtain⟨w,q2,e⟩:=mpd e;cases e;refine p2 G0 H0 G ω σ H d _ o q λv G1 H1 x1 y1=>?_;exact p4 G0 H0 G1 ω σ H1 d v _ _ iN q2 y1 λσ1 o1=>k G1 σ1 H1 o1 x1.gg
end
noncomputable def sIf(c:FT)(f g:FS):FS:=λω=>(c ω).bind λb=>if b=true then f ω else g ω
noncomputable def Xp(f:FE):FS:=λω=>(f ω).bind λr=>match r with
 | .sh d=>some nY
 | .fr ds=>some mT
 | .vw _=>none
noncomputable def zAo(i:Nat):FS:=λω=>match ω[i]? with
 | some ↥d=>some nY
 | some (some (.ow ds))=>some mT
 | _=>none
noncomputable def sNo:FS:=λ_=>none
noncomputable def zCY(f:FE):FS:=λω=>(f ω).map λ_=>DF
section
variable{X:Cx}{c e:vW}{a b:List vm}{st:vm}{pos:Pos}{fc:FT}{f g:FS}{fe:FE}
theorem qR(hc:XT X c fc)(ha:XSs X a f)(hb:XSs X b g):XS X adH (sIf fc f g):=by
 obtain⟨t,h1,h2⟩:=hc;obtain⟨u,h3,h4⟩:=ha;obtain⟨w,h5,h6⟩:=hb;refine⟨_,q4L h1 h3 h5,bU⟩;obtain⟨z,q,e⟩:=bnd e;refine h2 G0 H0 G ω σ H z _ o q λG1 H1 x1=>?_;cases z with
 | true=>rw[lg]at e ⊢;exact h4 G0 H0 G1 ω σ H1 out ω' E iN e λG2 σ2 H2 o2 g2=>k G2 σ2 H2 o2 abw
 | false=>exact h6 G0 H0 G1 ω σ H1 out ω' E iN e λG2 σ2 H2 o2 g2=>k G2 σ2 H2 o2 abw
theorem qh(he:XE X e fe):XS X rh (Xp fe):=by
 obtain⟨t,h1,h2⟩:=he;refine⟨_,q0e h1,bU⟩;obtain⟨r,q,e⟩:=bnd e;refine h2 G0 H0 G ω σ H r _ o q λv G1 H1 x1 y1=>?_;cases r with
 | sh d=>cases e;exact k G1 σ H1 iN x1.gg v y1
 | fr ds=>
  cases e;obtain⟨l,vs,e1,e2,e3⟩:=y1;exact k G1 σ H1 iN x1.gg v ⟨l,vs,e1,abL,e3⟩
 | vw ds=>cases e
theorem q5C{i:Nat}(he:PE X e LU):XS X rh (zAo i):=by
 refine⟨_,q0e he,bU⟩;unfold zAo at e;cases q:ω[i]? with
 | none=>rw[q]at e;cases e
 | some w=>
  rw[q]at e;cases w with
  | none=>cases e
  | some w=>
   cases w with
   | sh d=>
    cases e;obtain⟨v,q1,q2⟩:=o.sh i d q;exact⟨v,q1,k G σ H o dC v q2⟩
   | ow ds=>
    cases e;obtain⟨l,vs,q1,q2,q3,q4,q5⟩:=o.ow i ds q;exact⟨_,q1,k G σ H o dC _ ⟨l,vs,rfl,q4,q3,q2,q5⟩⟩
   | od ks ds=>cases e
   | pw ds=>cases e
theorem q8D:XS X st sNo:=⟨_,qff,λG0 H0 G ω σ H out ω' E o e k=>by cases e⟩
theorem qaL(he:XE X e fe)(hs:Jp:=by rfl):XS X (.Expr e pos) (zCY fe):=by
 obtain⟨t,h1,h2⟩:=he;refine⟨_,q0i h1 hs,bU⟩;obtain⟨r,q,e⟩:=mpd e;cases e;exact h2 G0 H0 G ω σ H r _ o q λv G1 H1 x1 y1=>k G1 σ H1 iN x1.gg
noncomputable def zCW(i:Nat)(f:FD):FS:=λω=>(f ω).bind λd=>match ω[i]? with
 | some (some (.ow ds))=>if ds.length<1000000 then some nJ else none
 | _=>none
theorem q2z{i:Nat}{o e:vW}{fd:FD}{apos cpos:Pos}(ho:mR)(he:XD X e fd)(hbase:uU o "append" X.env nR=eval o X.env:=by rfl)(hfew:((vo cpos nu).all (λx=>!x.1)&&(uO cpos kR).all ie
   && decide (([e]:List vW).length+([]:List uN).length+(if ([]:List uN).isEmpty then 0 else 1)<30))=true:=by rfl)
  (hline:iJ=true:=by rfl) (hs:vK [e] X.env=dW::vK [] X.env:=by rfl) (hplain:(vo cpos ck).any (·.1)=false:=by rfl)
  (hsw:uC B6 none pos.line X.env=pure false:=by rfl) :
  XS X (.Expr B6 pos) (zCW i fd):=by
 obtain⟨t,h1,h2⟩:=he;refine⟨_,q0i (q2m PySem.F.plainAttrs_list PySem.F.slot_list_append PySem.F.type_list_append q0q ho (qj h1 qq hs) hbase hfew hline hs hplain) hsw,nB⟩;obtain⟨d,q,e⟩:=bnd e;cases q2:ω[i]? with
 | none=>rw[q2]at e;cases e
 | some w=>
  rw[q2]at e;cases w with
  | none=>cases e
  | some w=>
   cases w with
   | sh d=>cases e
   | od ks ds=>cases e
   | pw ds=>cases e
   | ow ds=>
    dsimp only at e
    by_cases z:ds.length<1000000
    ·rw[iP]at e
     cases e;obtain⟨l,vs,r1,r2,r3,r4,r5⟩:=ow.ow i ds q2;refine lL;have o1:=ow.keep x1;have hz:vs.length<sizeLine:=by rw[<- r5.len,vh];omega
     refine⟨l,vs,v,rfl,rfl,Iy,hz,?_⟩;exact k G1 σ _ (o1.mut q2 r1 Iy (x1.new l r3 (by rw[r2];exact λz=>by cases z)) r4 ((r5.mono x1.gg).app (XB.cons y1 XB.nil))) x1.gg
    ·rw[iw]at e;cases e
end
end Hk
namespace PySem
open AutoSeq1 MeetsSeq MeetsSeq2 MeetsSeq3
theorem extTup(l b:vF)(xs ys:dI)(n m:Nat)(dd:Jd)(sl:aau)(h1:¬(!xs.isEmpty&&Builtin.List.listTooLong (xs.size+ys.size))=true)(h2:xs.size<=sizeLine)(h3:xs.size+ys.size<=sizeLine+1):
  Meets (Builtin.«list.extend» ⟨[cM,DE],[]⟩) (λ_ R s=>s.heap.get? l=some { cls:=.type "list", data:=.seq xs n }/\s.heap.get? b=some { cls:=.type "tuple", dict:=dd,data:=.seq ys m,slots:=sl } /\
   R (.ok (.ret Value.none)) { s with heap:=s.heap.update l (Obj.mapSeq λz=>z++ys),toks:=s.toks }) :=
 .of_wp λprog w A R s h=>by
  obtain⟨hp,g,d,tk,os⟩:=s;obtain⟨e1,e2,q⟩:=h;have p1:=idx_int;have p2:=sub_tuple_tuple;have p3:=sub_list_list;have p4:=sub_tuple_list;have p5:=sub_list_tuple;have fit:(xs++ys).size<=sizeLine+1:=by rw[Array.size_append];exact h3
  wp_walk using (uS e1 rfl (hz:=h2) (_hz':=fit)),wpAny_loadPart' e1,wpAny_loadPart' e2
  exact⟨_,rfl,q⟩
end PySem
namespace Hk
open PySem L2
section
variable{X:Cx}{pos:Pos}
def rExtA:V->List V->Hp->VK->Prop:=λx vs H Q=>zBu x vs H Q\/∃l b xs zs,x=.ref l/\vs=[DE]/\H l=some dk/\H b=some (.tup zs)/\xs.length+zs.length<=sizeLine/\Q .non (upd H l MR)
theorem qhy:MtR X "list.extend" rExtA:=by
 intro pins s σ H x vs v us Q I rx rv h;rcases h with h|h
 ·exact qe2 pins s σ H x vs v us Q I rx rv h
 obtain⟨l,b,xs,zs,rfl,rfl,hH,hB,hz,q⟩:=h;cases rx;obtain⟨u,rfl,ru⟩:=rv.one;cases ru;obtain⟨z,its,n,r,hl,e⟩:=I.lstM hH;obtain⟨its2,r2,⟨o2,e2,c2,n2,d2⟩,z2⟩:=I.tuple (SqT.of hB);have hl2:=r2.length;obtain⟨cls,dd,dt,sl⟩:=o2;cases c2;cases d2;have hsz:its.toArray.size+its2.toArray.size<=sizeLine:=by rw[zQ,zQ];omega
 have hlong:¬(!its.toArray.isEmpty&&Builtin.List.listTooLong Hi)=true:=by
  rw[zAL hsz,ZA];exact xA
 refine ux F.slot_list_extend fR F.entry_list_extend Os
  (extTup l b its.toArray its2.toArray n n2 dd sl hlong (by rw[zQ];omega) ∅) ⟨e,e2,?_⟩
 refine⟨.non,_,I.lset (its':=its++its2) hH e (by simp) Pf ?_,rfl,q⟩;rw[zD];omega
noncomputable def itemsOf:D->Option aY
 | .lst ds=>some ds
 | .tup ds=>some ds
 | _=>none
noncomputable def zDC(i:Nat)(f:FD):FS:=λω=>(f ω).bind λd=>(itemsOf d).bind λes=>match ω[i]? with
 | some (some (.ow ds))=>if ds.length+es.length<=1000000 then some HP else none
 | _=>none
theorem q9R{i:Nat}{o e:vW}{fd:FD}{apos cpos:Pos}(ho:mR)(he:XD X e fd)(hbase:uU o "extend" X.env nR=eval o X.env:=by rfl)(hfew:((vo cpos nu).all (λx=>!x.1)&&(uO cpos kR).all ie
   && decide (([e]:List vW).length+([]:List uN).length+(if ([]:List uN).isEmpty then 0 else 1)<30))=true:=by rfl)
  (hline:iJ=true:=by rfl) (hs:vK [e] X.env=dW::vK [] X.env:=by rfl) (hplain:(vo cpos ck).any (·.1)=false:=by rfl)
  (hsw:uC B5 none pos.line X.env=pure false:=by rfl) :
  XS X (.Expr B5 pos) (zDC i fd):=by
 obtain⟨t,h1,h2⟩:=he;refine⟨_,q0i (q2m PySem.F.plainAttrs_list PySem.F.slot_list_extend PySem.F.type_list_extend qhy ho (qj h1 qq hs) hbase hfew hline hs hplain) hsw,nB⟩;obtain⟨d,q,e⟩:=bnd e;obtain⟨es,q3,e⟩:=bnd e;cases q2:ω[i]? with
 | none=>rw[q2]at e;cases e
 | some w=>
  rw[q2]at e;cases w with
  | none=>cases e
  | some w=>
   cases w with
   | sh d=>cases e
   | od ks ds=>cases e
   | pw ds=>cases e
   | ow ds=>
    dsimp only at e
    by_cases z:ds.length+es.length<=1000000
    ·rw[iP]at e
     cases e;obtain⟨l,vs,r1,r2,r3,r4,r5⟩:=ow.ow i ds q2;refine lL;have o1:=ow.keep x1;have fin:∀us:List V,XB X.K G1 es us->vs.length+us.length<=sizeLine/\zBb X.K H0 G1 E .nx σ (upd H1 l (.lst (vs++us))):=λus hu=>
      ⟨by rw[<- r5.len,<- hu.len];exact q62 z,k G1 σ _ (o1.mut q2 r1 Iy (x1.new l r3 (by rw[r2];exact λz=>by cases z)) r4 ((r5.mono x1.gg).app hu)) x1.gg⟩
     cases d with
     | lst ds'=>
      cases q3;obtain⟨b,us,rfl,r6,r7⟩:=y1;obtain⟨f1,f2⟩:=fin us r7;exact .inl AL
     | tup ds'=>
      cases q3;obtain⟨b,us,rfl,r6,r7⟩:=y1;obtain⟨f1,f2⟩:=fin us r7;exact .inr AL
     | _=>cases q3
    ·rw[iw]at e;cases e
end
structure IterOf (K:zC) (J:It) (G:Hp) (ds:List D):Prop where
 go:∀H i,XL G H->i<ds.length->J.go i H
 yld:∀G2 H i x H' d,XL G G2->XL G2 H->ds[i]?=some d->J.yld i H x H'->∃G3,Ext G2 H G3 H'/\Rep K G3 d x
 stop:∀H,XL G H->J.stop ds.length H
noncomputable abbrev FI:=WSt->Option aY
def SimI(K:zC)(wi:TI)(f:FI):Prop:=∀G0 H0 G ω σ H ds(R:Ej),Own K G0 H0 G ω σ H->f ω=some ds->(∀J G' H',Ext G H G' H'->IterOf K J G' ds->R J H')->wi σ H R
def XI(X:Cx)(tg iter:vW)(f:FI):Prop:=∃wi,PI X tg iter wi/\SimI X.K wi f
section
variable{X:Cx}{tg e:vW}
theorem qfH{K:zC}{G:Hp}{a:vF}{ds:aY}{vs:bg}(h1:aas)(h2:oi):IterOf K adq G ds:=by
 refine⟨GO,iI,λH s=>⟨vs,SqL.of jK,by rw[h2.len];exact zL _⟩⟩
 ·have:i<vs.length:=by rw[<- h2.len];exact hi
  exact⟨vs,vs[i],MD,zA this⟩
 ·obtain⟨e,y⟩:=hy
  obtain⟨v,q1,q2⟩:=h2.get hd;have:=y vs TU;rw[q1]at this;cases this;subst e;exact LA
theorem qgk{K:zC}{G:Hp}{a:vF}{ds:aY}{vs:bg}(h1:G a=some Qx)(h2:oi):IterOf K adp G ds:=by
 refine⟨GO,iI,λH s=>⟨vs,SqT.of jK,by rw[h2.len];exact zL _⟩⟩
 ·have:i<vs.length:=by rw[<- h2.len];exact hi
  exact⟨vs,vs[i],FV,zA this⟩
 ·obtain⟨e,y⟩:=hy
  obtain⟨v,q1,q2⟩:=h2.get hd;have:=y vs (SqT.of Al);rw[q1]at this;cases this;subst e;exact LA
noncomputable def X8(f:FD):FI:=λω=>(f ω).bind itemsOf
theorem qu{f:FD}(h:L0):XI X tg e (X8 f):=by
 obtain⟨t,h1,h2⟩:=h;refine⟨λσ H R=>zCa X.K t σ H R\/iTup X.K t σ H R,λpins s σ H R I q=>?_,kK⟩
 ·rcases q with q|q
  ·exact q26 h1 pins s σ H R I q
  ·exact qjm h1 pins s σ H R I q
 ·obtain⟨d,q,e⟩:=bnd e
  cases d with
  | lst es=>
   cases e;refine .inl (h2 G0 H0 G ω σ H _ _ o q λv G1 H1 x1 ⟨a,vs,e1,e2,e3⟩=>⟨a,e1,⟨vs,SqL.of adW⟩,k _ G1 H1 x1 (qfH e2 e3)⟩)
  | tup es=>
   cases e;refine .inr (h2 G0 H0 G ω σ H _ _ o q λv G1 H1 x1 ⟨a,vs,e1,e2,e3⟩=>⟨a,e1,⟨vs,SqT.of adW⟩,k _ G1 H1 x1 (qgk e2 e3)⟩)
  | _=>cases e
noncomputable def upTo(lo:Int)(n:Nat):List D:=(zo n).map λ(i:Nat)=>D.int (lo+oa)
theorem qfC{K:zC}{G:Hp}(lo:Int)(n:Nat):IterOf K (Itr lo n) G (upTo lo n):=by
 have hl:(upTo lo n).length=n:=by unfold upTo;rw[zB,yC]
 refine⟨λH i s hi=>by rw[hl]at hi;exact hi,λG2 H i x H' d s0 s1 hd hy=>?_,λH s=>by rw[hl];exact zL _⟩;obtain⟨e,y⟩:=hy;subst e;refine⟨G2,aat,?_⟩;unfold upTo at hd;rw[zP]at hd;have hi:i<n:=by
  rcases zz i n with z|z
  ·exact z
  ·rw[zu (by rw[yC];exact z)]at hd;cases hd
 rw[wB hi]at hd;cases hd;exact y
noncomputable def iRg1(g:FA):FI:=λω=>(g ω).bind λds=>match ds with
 | [.int j]=>if -(2^62)<=j/\j<2^62 then some abA else none
 | _=>none
theorem qdK{a:vW}{g:FA}{p pos:Pos}(hg:Gl X "range")(hm:aa3)(ha:XVA X [a] g)(hs:CQ:=by rfl):XI X tg HS (iRg1 g):=by
 obtain⟨t,h1,h2⟩:=ha;refine⟨_,q7W hg hm h1 hs,kK⟩;obtain⟨vs,q,e⟩:=bnd e;refine h2 G0 H0 G ω σ H vs _ o q λus G1 H1 x1 y1=>?_
 match vs,e with
 | [.int j],e=>
  dsimp only at e
  by_cases z:-(2^62)<=j/\j<2^62
  ·rw[iP]at e
   cases e;obtain⟨v,rfl,y2⟩:=y1.one;cases y2.int;exact⟨j,rfl,z.1,z.2,k _ G1 H1 x1 (qfC _ _)⟩
  ·rw[iw]at e;cases e
end
noncomputable def zAk(g:FG)(b:FS):List D->FS
 | [],ω=>some DF
 | d::ds,ω=>(g d ω).bind λw=>(b w).bind λp=>match p.1 with
  | .nx=>zAk g b ds p.2
  | .ct=>zAk g b ds p.2
  | .bk=>some (.nx,p.2)
  | .rt r=>some (.rt r,p.2)
noncomputable def zAi(fi:FI)(g:FG)(b:FS):FS:=λω=>(fi ω).bind λds=>zAk g b ds ω
section
variable{X:Cx}{tg iter:vW}{body:List vm}{pos:Pos}{fi:FI}{fg:FG}{fb:FS}
theorem q0d(hp:jv)(hc:cV)(hi:Fm)(hg:XG X tg fg)(hb:XSs X body fb)(hs:∀x,vz iter X.env x=pure x:=by intro _;rfl):XS X Ox (zAi fi fg fb):=by
 obtain⟨wi,h1,h2⟩:=hi;obtain⟨g,h3,h4⟩:=hg;obtain⟨tb,h5,h6⟩:=hb;refine⟨_,q2y hp hc h1 h3 h5 hs,bU⟩;obtain⟨ds,q,e⟩:=bnd e;refine h2 G0 H0 G ω σ H ds _ o q λJ G1 H1 x1 it=>?_;refine⟨λi m σ2 H2=>∃G2 ω2,Own X.K G0 H0 G2 ω2 σ2 H2/\XL G1 G2/\zAk fg fb (ds.drop i) ω2=some K7/\i<=ds.length/\m=ds.length-i,⟨_,G1,ω,iN,dC,e,pB,rfl⟩,?_⟩;rintro i m σ2 H2 ⟨G2,ω2,o2,s2,f2,hi2,rfl⟩
 by_cases hlt:i<ds.length
 ·refine .inr ⟨it.go H2 i abG hlt,λσ3 H3=>∃G3 ω3,Own X.K G0 H0 G3 ω3 σ3 H3/\XL G1 G3/\zAk fg fb (ds.drop (i+1)) ω3=some K7,λσ3 H3 ⟨G3,ω3,a1,a2,a3⟩=>⟨ds.length-(i+1),∅,G3,ω3,a1,a2,a3,hlt,rfl⟩,λx H3 hy=>?_⟩
  have hd:ds[i]?=some ds[i]:=zA hlt;obtain⟨G4,x4,rx⟩:=it.yld G2 H2 i x H3 ds[i] s2 o2.gh hd hy;have o2:=o2.keep x4;have s2:=s2.trans x4.gg;rw[xI hlt]at f2;obtain⟨w,q1,f2⟩:=bnd f2;obtain⟨⟨o3,ω3⟩,q2,f2⟩:=bnd f2;refine h4 G0 H0 G4 ω2 σ2 H3 ds[i] x w _ o2 q1 rx λσ4 o4=>?_;refine h6 G0 H0 G4 w σ4 H3 o3 ω3 _ o4 q2 λG5 σ5 H5 o5 s5=>?_;cases o3 with
  | nx=>exact Uw
  | ct=>exact Uw
  | bk=>cases f2;exact k G5 σ5 H5 o5 abx
  | rt r=>cases f2;exact k G5 σ5 H5 o5 abx
 ·have ei:i=ds.length:=∅
  subst ei;rw[ZR]at f2;cases f2;exact .inl ⟨it.stop H2 abG,k G2 σ2 H2 o2 (x1.gg.trans s2)⟩
end
noncomputable def X2(g:FG)(c:FT)(f:FD):List D->WSt->Option aY
 | [],_=>some []
 | d::ds,ω=>(g d ω).bind λw=>(c w).bind λb=>if b=true then (f w).bind λx=>(X2 g c f ds w).map λr=>x::r else X2 g c f ds w
noncomputable def Wa:Option dh->Option W
 | some ↥d=>↥d
 | _=>none
noncomputable def inW(M:Nat)(frees:cP)(ω:WSt):WSt:=zk M none++frees.map λj=>Wa ω[j]?
noncomputable def Xi(M:Nat)(frees:cP)(fi:FI)(g:FG)(c:FT)(f:FD):FE:=λω=>(fi ω).bind λds=>if ds.length<=1000000 then (X2 g c f ds DV).map R.fr else none
def XTs(X:Cx)(ifs:jw)(f:FT):Prop:=∃t,PTs X ifs t/\zBA X.K t f
noncomputable def Xj:FT:=λ_=>some true
theorem qB{X:Cx}:XTs X [] Xj:=⟨_,qbv,λG0 H0 G ω σ H b Q o e k=>by cases e;exact k G H mE⟩
theorem q2Y{X:Cx}{c:vW}{f:FT}(h:XT X c f):XTs X [c] f:=let ⟨t,h1,h2⟩:=h;⟨t,qhR h1,h2⟩
section
variable{X:Cx}{N:List Str}{M:Nat}{frees:List Nat}{scope:u4}{tg iter elt:vW}{ifs:List vW}{pos:Pos}{fi:FI}{fg:FG}{fc:FT}{fe:FD}
def WG(ω:WSt):Prop:=∀(i:Nat)w,ω[i]?=some (some w)->∃d,w=.sh d
theorem WG.ow{ω:WSt}(h:Qt)(i:Nat)(ds:aY):ω[i]?≠some di:=λz=>by obtain⟨d,e⟩:=h i _ z;cases e
theorem WG.od{ω:WSt}(h:Qt)(i:Nat)(ks:af)(ds:aY):ω[i]?≠some kb:=λz=>by obtain⟨d,e⟩:=h i _ z;cases e
theorem WG.pw{ω:WSt}(h:Qt)(i:Nat)(ds:aY):ω[i]?≠some Ev:=λz=>by obtain⟨d,e⟩:=h i _ z;cases e
theorem q6t{wi:TI}{g:TG}{tc:TT}{te:TE}(h2:SimI X.K wi fi)(h4:SimG X.K g fg)(h6:zBA X.K tc fc)(h8:zAX X.K te fe)(hg:∀d ω ω',WG ω->fg d ω=some ω'->WG ω'):zCV X.K Cp oo:=by
 intro G0 H0 G ω σ H r Q o e k;obtain⟨ds,q,e⟩:=bnd e
 by_cases hz:ds.length<=1000000
 ·rw[vH hz]at e
  obtain⟨rs,q2,e⟩:=mpd e;subst e;refine h2 G0 H0 G ω σ H ds _ o q λJ G1 H1 x1 it=>?_;intro A hA;have ow0:WG DV:=by
   intro i es z;unfold inW at z;rcases zz i M with y|y
   ·rw[ze ⇑y,xB,K0]at z;cases z
   ·rw[zb ⇑y,yN,zP]at z
    cases e1:frees[i-M]? with
    | none=>rw[e1]at z;cases z
    | some j=>
     rw[e1]at z;have z':Wa ω[j]?=some es:=zr z;generalize ω[j]?=u at z';unfold Wa at z'
     split at z'
     ·cases z';exact bD
     ·cases z'
  have own0:∀G2 H2,XL G1 G2->XL G2 H2->Own X.K G2 (fr H2) G2 DV Df H2:=λG2 H2 s1 s2=>by
   have o1:=o.keep x1;refine⟨Ext.refl s2,by unfold inW zBa;simp,λi d hi=>?_,λi ds' hi=>vP hi aea,λi j ds' es l hi=>vP hi aea,λi ks ds' hi=>vP hi (ow0.od i ks ds'),X6.no ow0.pw⟩;unfold inW at hi;unfold zBa;rcases zz i M with y|y
   ·rw[ze ⇑y,xB,K0]at hi;cases hi
   ·rw[zb ⇑y,yN,zP]at hi ⊢
    cases e1:frees[i-M]? with
    | none=>rw[e1]at hi;cases hi
    | some j=>
     rw[e1]at hi;have hi':Wa ω[j]?=↥d:=zr hi;cases e2:ω[j]? with
     | none=>rw[e2]at hi';cases hi'
     | some w=>
      rw[e2]at hi';cases w with
      | none=>cases hi'
      | some w=>
       cases w with
       | ow _=>cases hi'
       | od _ _=>cases hi'
       | pw _=>cases hi'
       | sh d'=>
        cases hi';obtain⟨v,q3,q4⟩:=o1.sh j _ e2;exact⟨v,by rw[xH,q3];rfl,q4.mono s1⟩
  refine⟨λi m σ2 H2=>∃G2 ω2 accd accv,Own X.K G2 (fr H2) G2 ω2 σ2 H2/\WG ω2/\Ext G1 H1 G2 H2/\G2 A=none/\H2 A=some L6/\XB X.K G2 accd accv/\accd.length<=i/\i<=ds.length/\m=ds.length-i /\
   ∃rest,X2 fg fc fe (ds.drop i) ω2=some rest/\accd++rest=rs,⟨_,G1,DV,[],[],own0 _ _ dC (Xe x1.gh (x1.gh.free hA) _),ow0,Ext.hide x1.gh hA _,x1.gh.free hA,qe,XB.nil,bX,pB,rfl,rs,q2,rfl⟩,?_⟩
  rintro i m σ2 H2 ⟨G2,ω2,accd,accv,o2,no2,x2,gA,hA2,ra,la,li,rfl,rest,cd,er⟩
  by_cases hlt:i<ds.length
  ·refine .inr ⟨it.go H2 i UF hlt,λx H3 hy=>?_⟩
   have hd:ds[i]?=some ds[i]:=zA hlt;obtain⟨G4,x4,rx⟩:=it.yld G2 H2 i x H3 ds[i] x2.gg x2.gh hd hy;have o2':=o2.keep x4;have o2:Own X.K G4 acX G4 ω2 σ2 H3:=⟨Ext.refl x4.gh,o2'.len,o2'.sh,λi ds' hi=>vP hi aef,λi j ds' es l hi=>vP hi aef,λi ks ds' hi=>vP hi (no2.od i ks ds'),X6.no no2.pw⟩;have gA:G4 A=none:=x4.new A gA (by rw[hA2];exact λz=>by cases z);have hA2:H3 A=some L6:=x4.hh _ _ hA2;have x2:=x2.trans x4;have ra:=ra.mono x4.gg;rw[xI hlt]at cd;obtain⟨w,q1,cd⟩:=bnd cd;obtain⟨b,q3,cd⟩:=bnd cd;have now:=hg _ _ _ no2 q1;refine h4 G4 acX G4 ω2 σ2 H3 ds[i] x w _ o2 q1 rx λσ4 o4=>?_;refine h6 G4 acX G4 w σ4 H3 b _ o4 q3 λG5 H5 x5=>?_;have o5:=o4.keep x5;have gA5:G5 A=none:=x5.new A gA (by rw[hA2];exact λz=>by cases z);have hA5:H5 A=some L6:=x5.hh _ _ hA2;cases b with
   | false=>
    rw[vJ xA];rw[vJ xA]at cd;have o6:Own X.K G5 (fr H5) G5 w σ4 H5:=⟨Ext.refl x5.gh,o5.len,o5.sh,Vm,OC,GN,X6.no now.pw⟩;exact⟨ds.length-(i+1),∅,G5,w,accd,accv,o6,now,x2.trans x5,gA5,hA5,ra.mono x5.gg,∅,hlt,rfl,rest,cd,er⟩
   | true=>
    rw[lg]at cd ⊢;obtain⟨d,q4,cd⟩:=bnd cd;obtain⟨rest',q5,cd⟩:=mpd cd;subst cd;refine h8 G4 acX G5 w σ4 H5 d _ o5 q4 λv G6 H6 x6 y6=>?_;have gA6:G6 A=none:=x6.new A gA5 (by rw[hA5];exact λz=>by cases z);have hA6:H6 A=some L6:=x6.hh _ _ hA5;have x26:=(x2.trans x5).trans x6;have raa:=ra.mono (x5.gg.trans x6.gg);have hl:accv.length<sizeLine:=by rw[<- raa.len,vh];omega
    refine⟨accv,hA6,hl,ds.length-(i+1),∅,G6,w,accd++[d],accv++[v],?_,now,⟨x26.gg,Xe x26.gh gA6 _,Xe x26.hh hA _,x26.new⟩,gA6,qe,raa.app (XB.cons y6 XB.nil),by rw[zD,zT];omega,hlt,rfl,rest',q5,by rw[zM];exact er⟩;have o6:=o5.keep x6;exact⟨Ext.refl (Xe x6.gh gA6 _),o6.len,o6.sh,Vm,OC,GN,X6.no now.pw⟩
  ·have ei:i=ds.length:=∅
   subst ei;rw[ZR]at cd;cases cd;rw[zx]at er;subst er;refine .inl ⟨it.stop H2 UF,k _ G2 H2 eO ⟨A,accv,rfl,x1.hh.free hA,gA,hA2,ra⟩⟩
 ·rw[vJ hz]at e;cases e
theorem qg5{ω:WSt}{i:Nat}{d:D}(h:Qt):WG jO:=by
 intro j ds z;rcases qf z with⟨_,_,y⟩|⟨_,y⟩
 ·cases y;exact Vh
 ·exact h j ds y
def Tame(fg:FG):Prop:=∀d ω ω',WG ω->fg d ω=some ω'->WG ω'
def zCJ(gs:dN):Prop:=∀ds ω ω',WG ω->gs ds ω=some ω'->WG ω'
theorem qv(i:Nat):Tame R1:=λd ω ω' h e=>by cases e;exact qg5 h
theorem q3F:zCJ X3:=λds ω ω' h e=>by
 cases ds with
 | nil=>cases e;exact h
 | cons _ _=>cases e
theorem q0n{fg:FG}{gs:dN}(h:Tame fg)(h':zCJ gs):zCJ (XQ fg gs):=λds ω ω' n e=>by
 cases ds with
 | nil=>cases e
 | cons d r=>obtain⟨w,q,e⟩:=bnd e;exact h' _ _ _ (h _ _ _ n q) e
theorem q76{n:Nat}{gs:dN}(h:zCJ gs):Tame (gT n gs):=λd ω ω' no e=>by
 unfold gT at e;cases d with
 | tup ds=>
  dsimp only at e
  by_cases z:ds.length=n
  ·rw[iP]at e;exact h _ _ _ no e
  ·rw[iw]at e;cases e
 | _=>cases e
noncomputable def canD(K:zC)(f:FD):TE:=λσ H Q=>∃G0 H0 G ω d,Own K G0 H0 G ω σ H/\f ω=some d/\∀v G' H',Ext G H G' H'->Rep K G' d v->Q v H'
noncomputable def canT(K:zC)(f:FT):TT:=λσ H Q=>∃G0 H0 G ω b,Own K G0 H0 G ω σ H/\f ω=some b/\∀G' H',Ext G H G' H'->Q b H'
noncomputable def canG(K:zC)(f:FG):TG:=λv σ H Q=>∃G0 H0 G ω d ω',Own K G0 H0 G ω σ H/\f d ω=some ω'/\Rep K G d v/\∀σ',Own K G0 H0 G ω' σ' H->Q σ' H
theorem XD.can{X:Cx}{e:vW}{f:FD}(h:L0):PE X e (canD X.K f):=λpins s σ H Q I ⟨G0,H0,G,ω,d,o,e,k⟩=>let ⟨_,h1,h2⟩:=h;h1 pins s σ H Q I Ld
theorem XTs.can{X:Cx}{e:jw}{f:FT}(h:XTs X e f):PTs X e (canT X.K f):=λpins s σ H Q I ⟨G0,H0,G,ω,d,o,e,k⟩=>let ⟨_,h1,h2⟩:=h;h1 pins s σ H Q I Ld
theorem XG.can{X:Cx}{e:vW}{f:FG}(h:XG X e f):PG X e (canG X.K f):=λpins s σ H v u Q I r ⟨G0,H0,G,ω,d,ω',o,e,y,k⟩=>let ⟨_,h1,h2⟩:=h;h1 pins s σ H v u Q I r (h2 G0 H0 G ω σ H d v ω' Q o e y k)
theorem q5W{K:zC}{f:FD}:zAX K (canD K f) f:=λG0 H0 G ω σ H d Q o e k=>QL
theorem q6b{K:zC}{f:FT}:zBA K (canT K f) f:=λG0 H0 G ω σ H d Q o e k=>QL
theorem q6l{K:zC}{f:FG}:SimG K (canG K f) f:=λG0 H0 G ω σ H d v ω' Q o e y k=>⟨G0,H0,G,ω,d,ω',o,e,y,k⟩
theorem qG(hc:cV)(B:gY)(hi:Fm)(ht:Tame fg)(hb:∀C s H fp,XG aG tg fg/\XTs aG ifs fc/\XD aG elt fe)(hs:∀x,vz iter X.env x=pure x:=by intro _;rfl):XE X aV oo:=by
 obtain⟨wi,h1,h2⟩:=hi;have b4:∀C s H fp,PG aG tg Pt/\PTs aG ifs Ps/\PE aG elt Pu:=λC s H fp=>gB;exact⟨_,qbc hc B h1 b4 hs,ES⟩
theorem q1D{i:Nat}{x:Str}{pos' spos:Pos}(hc:cV)(hN:X.N.Nodup)(hi':X.N[i]?=some x)(hx:nD)(B:gY)(hi:Fm)(ht:Tame fg)(hb:∀C s H fp,XG aG tg fg/\XTs aG ifs fc/\XD aG elt fe)(hsw:mI:=by rfl)(hs:∀x,vz iter X.env x=pure x:=by intro _;rfl):XS X En (Xt i oo):=by
 obtain⟨wi,h1,h2⟩:=hi;have b4:∀C s H fp,PG aG tg Pt/\PTs aG ifs Ps/\PE aG elt Pu:=λC s H fp=>gB;exact⟨_,LI,qbZ ES⟩
def zAI(X:Cx)(scope:u4):List Str->List Nat->Prop
 | [],[]=>True
 | x::xs,j::js=>(X.N[j]?=some x/\AG/\scope.names.lookup x=some .free)/\zAI X scope xs js
 | _,_=>False
theorem q70{X:Cx}{scope:u4}:∀{xs:cg}{js:cP},zAI X scope xs js->∀(k:Nat)(x:Str),xs[k]?=some x->∃j,js[k]?=some j/\X.N[j]?=some x/\AG/\scope.names.lookup x=some .free
 | [],_,_,_,_,e=>by simp at e
 | _::_,[],h,_,_,_=>h.elim
 | y::ys,i::is,⟨h1,h2⟩,0,x,e=>by
  have:y=x:=by simpa using e
  subst this;exact⟨i,rfl,h1⟩
 | y::ys,i::is,⟨h1,h2⟩,k+1,x,e=>by
  obtain⟨j,q⟩:=q70 h2 k x ⇑e;exact⟨j,by simpa using q.1,q.2⟩
theorem q5P{X:Cx}{scope:u4}:∀{xs:cg}{js:cP},zAI X scope xs js->xs.length=js.length
 | [],[],_=>rfl
 | [],_::_,h=>h.elim
 | _::_,[],h=>h.elim
 | _::ys,_::is,⟨_,h2⟩=>by rw[zJ,zJ,q5P h2]
theorem blk{X:Cx}{scope:u4}(own free:cg)(frees:cP)(h1:scope.kind=.function)(h2:∀y∈scope.names,y.2≠.cell)(h3:∀y∈scope.names,y.2=.local->scope.names.lookup y.1=some .local)(h4:(scope.names.all λp=>p.2 != .free || (X.env.cells.lookup p.1).isSome)=true)(h5:zAI X scope free frees):BlkOk X (own++free) own.length frees scope:=by
 refine⟨h1,h2,h3,λp hp hf=>?_,λk x e=>?_,by rw[zD,q5P h5]⟩
 ·have:=wM.mp h4 p hp
  rw[hf]at this;simpa using this
 ·rw[zb (Nat.le_add_right _ _),ZQ]at e
  exact q70 h5 k x e
end
noncomputable def entry(n:Nat)(ds:aY):WSt:=ds.map (λd=>↥d)++zk (n-ds.length) none
noncomputable def mir(n:Nat)(body:FS)(ds:aY):Option O:=match body Rf with
 | some (.rt r,_)=>some r
 | some (.nx,_)=>some Ou
 | _=>none
theorem q4s{K:zC}{H:Hp}{N:cg}{ds:aY}{vs:bg}(h:BJ)(i:Nat)(d:D)(e:(entry N.length ds)[i]?=some ↥d):∃v,(L2.start N vs)[i]?=some lO/\Rep K H d v:=by
 unfold entry at e;unfold L2.start;have hl:=h.len;rcases zz i ds.length with y|y
 ·rw[ze ⇑y,zP]at e
  have e1:ds[i]?=some d:=by
   cases q:ds[i]? with
   | none=>rw[q]at e;cases e
   | some d'=>rw[q]at e;cases e;rfl
  obtain⟨v,q1,q2⟩:=h.get e1;refine⟨v,?_,q2⟩;rw[ze ⇑((∅:i<vs.length)),zP,q1];rfl
 ·rw[zb ⇑y,xB]at e
  split at e <;> cases e
theorem qK{n:Nat}{ds:aY}:WG Rf:=by
 intro i es z;unfold entry at z;rcases zz i ds.length with y|y
 ·rw[ze ⇑y,zP]at z
  cases q:ds[i]? with
  | none=>rw[q]at z;cases z
  | some d=>rw[q]at z;cases z;exact Vh
 ·rw[zb ⇑y,xB]at z
  split at z <;> cases z
theorem fnD{P:vU}{w:vY}{K:zC}{mg:bG}{base:vk}{x qual:Str}{st:vm}{f:vF}{fd:vO}{N ps:cg}{k:Nat}{body:FS}(F:HJ)(S:FnScope N ps Hu)(hb:∀(cdv:vB)(A:vg)(outer:AU)(s:vC)(H:Hp)(E:XK),Room k (A.deeper (PyProof.Rows.envOfC qual Hu s.heap.objs.size f cdv))->XSs (zCA CX0 P w K mg base N qual Hu f cdv A outer s H E).nox ac9 body):
  FnOk P w K mg base CX0 (k+1) f fd ps (spD K ps.length (mir N.length body)):=by
 refine F.ok S Bm bK
 ·obtain⟨G,ds,r,_,h2,_,h4,_⟩:=h
  rw[<- h4.len];exact h2
 ·obtain⟨G,ds,r,h1,h2,h3,h4,h5⟩:=h
  obtain⟨t,p1,p2⟩:=hb cdv A outer s H E hr;refine⟨t,p1,?_⟩;unfold mir at h1;have hl:=h4.len;have hpl:ps.length<=N.length:=by have:=uB wD S.pre;rw[zf]at this;omega
  have o0:Own K G ou G Hq eK H:=by
   refine⟨Ext.refl h3,?_,λi d e=>q4s h4 i d e,OD,JH,Ko,X6.no qK.pw⟩;unfold entry L2.start;simp only[zD,zB,yN];omega
  cases q:body Hq with
  | none=>rw[q]at h1;cases h1
  | some p=>
   obtain⟨out,ω'⟩:=p;rw[q]at h1;refine p2 G ou G _ _ H out ω' _ o0 q λG' σ' H' o' s'=>?_;cases out with
   | nx=>cases h1;exact h5 _ G' H' o'.ext rfl
   | bk=>cases h1
   | ct=>cases h1
   | rt r'=>cases h1;exact λv y=>h5 v G' H' o'.ext y
theorem q0b:vn "len" = some acf:=⋯
theorem q3n:vn "all" = some acg:=⋯
theorem qcX:vn "sum" = some ace:=⋯
theorem q9U:vn "abs" = some ach:=⋯
theorem q2v:vn "sorted" = some gk:=⋯
theorem qdx:vn "int" = some (.type "int"):=⋯
theorem qbS:vn "bool" = some (.type "bool"):=⋯
theorem q1A:vn "list" = some Gi:=⋯
theorem q4I:vn "tuple" = some (.type "tuple"):=⋯
theorem qjK:vn "set" = some nH:=⋯
theorem qjF:vn "zip" = some PV:=⋯
noncomputable def zC4(o:Sh)(g:FS):Option eX:=o.bind λp=>match p.1 with
 | .nx=>g p.2
 | o=>some (o,p.2)
noncomputable def setS(i:Nat)(ω:WSt)(o:L1):Option eX:=o.bind λr=>(setR i r ω).map λw=>KH
noncomputable def ifS(c:HC)(f g:FS)(ω:WSt):Option eX:=c.bind λb=>if b=true then f ω else g ω
noncomputable def retS(ω:WSt)(o:L1):Option eX:=o.bind λr=>match r with
 | .sh d=>some nY
 | .fr ds=>some mT
 | .vw _=>none
noncomputable def retV(ω:WSt)(o:Az):Option eX:=match o with
 | some ↥d=>some nY
 | some (some (.ow ds))=>some mT
 | _=>none
noncomputable def appS(i:Nat)(ω:WSt)(o:dU)(l:Az):Option eX:=o.bind λd=>match l with
 | some (some (.ow ds))=>if ds.length<1000000 then some nJ else none
 | _=>none
noncomputable def extS(i:Nat)(ω:WSt)(o:dU)(l:Az):Option eX:=o.bind λd=>(itemsOf d).bind λes=>match l with
 | some (some (.ow ds))=>if ds.length+es.length<=1000000 then some HP else none
 | _=>none
noncomputable def shrS(i:Nat)(ω:WSt)(o:Az):WSt:=match o with
 | some (some (.ow ds))=>ω.set i ↥fQ
 | some (some (.od ks ds))=>ω.set i ↥El
 | _=>ω
noncomputable def forS(o:BY)(g:FG)(b:FS)(ω:WSt):Option eX:=o.bind λds=>zAk g b ds ω
noncomputable def asgS(o:dU)(g:FG)(ω:WSt):Option eX:=o.bind λd=>(g d ω).map λw=>KH
noncomputable def zCm(o:Az):Option R:=match o with
 | some ↥d=>↥d
 | some (some (.ow ds))=>some GD
 | some (some (.pw ds))=>some GD
 | _=>none
noncomputable def eD(o:dU):Option R:=o.map R.sh
noncomputable def dR(o:L1):Option D:=match o with
 | ↥d=>some d
 | some (.fr ds)=>some fQ
 | _=>none
noncomputable def vR(o:L1):Option D:=o.map R.d
noncomputable def op2(op:lZ)(x y:dU):Option R:=x.bind λx=>y.bind λy=>op x y
noncomputable def callR(m:ci)(o:BY):Option R:=o.bind λds=>(m ds).map O.r
noncomputable def consA(o:dU)(r:BY):Option aY:=o.bind λd=>r.map λds=>d::ds
noncomputable def bltR(op:MJ)(o:BY):Option R:=o.bind op
noncomputable def slR(o:dU)(l h:Option fw):Option R:=o.bind λd=>l.bind λlo=>h.bind λhi=>oSl d lo hi
noncomputable def atP(o:dU):Option fw:=o.bind λd=>match d with|.int i=>some VF|_=>none
noncomputable def iteR(c:HC)(f g:FE)(ω:WSt):Option R:=c.bind λk=>if k=true then f ω else g ω
noncomputable def isiR(c:Ty)(o:dU):Option R:=o.bind λd=>match d with
 | .scr _=>none
 | .exc _=>none
 | .dic _ _=>none
 | d=>↥E9
noncomputable def tR(o:L1):Option Bool:=match o with
 | ↥(.bl k)=>some k
 | _=>none
noncomputable def andT(o:HC)(g:FT)(ω:WSt):Option Bool:=o.bind λc=>if c=true then g ω else some false
noncomputable def orT(o:HC)(g:FT)(ω:WSt):Option Bool:=o.bind λc=>if c=true then some true else g ω
noncomputable def notT(o:HC):Option Bool:=o.map (!·)
noncomputable def truT(o:dU):Option Bool:=o.bind truD
noncomputable def andV(o:dU)(g:FD)(ω:WSt):Option D:=o.bind λd=>(blOf d).bind λc=>if c=true then g ω else some dM
noncomputable def seqI(o:dU):Option aY:=o.bind itemsOf
noncomputable def rg1I(o:BY):Option aY:=o.bind λds=>match ds with
 | [.int j]=>if -(2^62)<=j/\j<2^62 then some abA else none
 | _=>none
noncomputable def compR(M:Nat)(fr:cP)(o:BY)(g:FG)(c:FT)(f:FD)(ω:WSt):Option R:=o.bind λds=>if ds.length<=1000000 then (X2 g c f ds (inW M fr ω)).map R.fr else none
noncomputable def outM(o:Sh):Option O:=match o with
 | some (.rt r,_)=>some r
 | some (.nx,_)=>some Ou
 | _=>none
section
variable{f g:FS}{ω w:WSt}{i:Nat}{fe fe':FE}{fd fd':FD}{ft ft':FT}{r:O}{d d':D}{ds ds':List D}{a b:Int}{p q:Bool}{fa:FA}{fg:FG}{fi:FI}{n:Nat}
theorem qgz:mir n f ds=outM (f Rf):=rfl
theorem qbq:outM abE=some r:=rfl
theorem qaV:outM (some KH)=some Ou:=rfl
theorem qV:Xd f g ω=zC4 (f ω) g:=rfl
theorem qby:zC4 (some KH) g=g w:=rfl
theorem qbG:zC4 abE g=some (.rt r,w):=rfl
theorem qgG:Wg ω=some DF:=rfl
theorem qgP:Xt i fe ω=setS i ω NU:=rfl
theorem qb5:setS i ω ↥d=some (.nx,jO):=rfl
theorem qaJ:setS i ω Qg=some (.nx,QN):=rfl
theorem e_if:sIf ft f g ω=ifS Re f g ω:=rfl
theorem qen:ifS Fy f g ω=f ω:=rfl
theorem qdT:ifS (some false) f g ω=g ω:=rfl
theorem qgB:Xp fe ω=retS ω NU:=rfl
theorem qbo:retS ω ↥d=some nY:=rfl
theorem qbg:retS ω Qg=some mT:=rfl
theorem qdN:zAo i ω=retV ω ω[i]?:=rfl
theorem qbJ:retV ω GV=some mT:=rfl
theorem qgC:zCW i fd ω=appS i ω oQ ω[i]?:=rfl
theorem zCD(h:ds.length<1000000):appS i ω BG GV=some nJ:=vH h
theorem qgw:zDC i fd ω=extS i ω oQ ω[i]?:=rfl
theorem q9K(h:M6):extS i ω (some (.tup ds')) GV=some GE:=vH h
theorem q5e(h:M6):extS i ω (some (.lst ds')) GV=some GE:=vH h
theorem qaU:X5 i f ω=f (shrS i ω ω[i]?):=rfl
theorem qaM:shrS i ω GV=ω.set i ↥fQ:=rfl
theorem qh4:zAi fi fg f ω=forS (fi ω) fg f ω:=rfl
theorem e_fs:forS K4 fg f ω=zAk fg f ds ω:=rfl
theorem qgn:sAsg fd fg ω=asgS oQ fg ω:=rfl
theorem e_ag:asgS BG fg ω=(fg d ω).map λw=>KH:=rfl
theorem e_gn:gN i d ω=some jO:=rfl
theorem e_gt{gs}:gT n gs B2 ω=if ds.length=n then gs ds ω else none:=rfl
theorem e_gc{gs}:XQ fg gs (d::ds) ω=(fg d ω).bind λw=>gs ds w:=rfl
theorem e_g0:X3 [] ω=some ω:=rfl
theorem qgA:Y1 i ω=zCm ω[i]?:=rfl
theorem qaW:zCm (some ↥d)=↥d:=rfl
theorem qbr:zCm GV=some GD:=rfl
theorem e_c:fC d ω=some d:=rfl
theorem e_e:eOf fd ω=eD oQ:=rfl
theorem e_ed:eD BG=↥d:=rfl
theorem e_d:dOf fe ω=dR NU:=rfl
theorem qaX:dR ↥d=some d:=rfl
theorem qaZ:dR Qg=some fQ:=rfl
theorem e_v:vOf fe ω=vR NU:=rfl
theorem qaN:vR ↥d=some d:=rfl
theorem qbf:vR Qg=some fQ:=rfl
theorem qbK:vR (some GD)=some fQ:=rfl
theorem e_op{op}:Y9 op fd fd' ω=op2 op oQ (fd' ω):=rfl
theorem e_o2{op}:op2 op BG (some d')=op d d':=rfl
theorem qdk{m}:Y8 m fa ω=callR m NV:=rfl
theorem e_cl{m}:callR m K4=(m ds).map O.r:=rfl
theorem qc2:(O.sh d).r=.sh d:=rfl
theorem qc3:(O.fr ds).r=.fr ds:=rfl
theorem e_ac:Y0 fd fa ω=consA oQ NV:=rfl
theorem e_ca:consA BG K4=some (d::ds):=rfl
theorem e_an:XC ω=some []:=rfl
theorem qgF:zAg fa ω=(fa ω).map R.fr:=rfl
theorem qgO:W1 fa ω=(fa ω).map D.tup:=rfl
theorem qgq{op}:WF op fa ω=bltR op NV:=rfl
theorem e_bl{op}:bltR op K4=op ds:=rfl
theorem qgr{l h:FO}:fSl fd l h ω=slR oQ (l ω) (h ω):=rfl
theorem e_sl{lo hi:fw}:slR BG (some lo) (some hi)=oSl d lo hi:=rfl
theorem e_po:pNo ω=some none:=rfl
theorem e_pa:pAt fd ω=atP oQ:=rfl
theorem e_ap:atP (some cB)=some (some a):=rfl
theorem qgR:fIte ft fe fe' ω=iteR Re fe fe' ω:=rfl
theorem qeG:iteR Fy fe fe' ω=fe ω:=rfl
theorem qdr:iteR (some false) fe fe' ω=fe' ω:=rfl
theorem qgx{c}:zBE c fd ω=isiR c oQ:=rfl
theorem q8b{c}:isiR c Qe=↥(.bl (zCU .lst c)):=rfl
theorem q81{c}:isiR c (some B2)=↥(.bl (zCU .tup c)):=rfl
theorem e_t:tOf fe ω=tR NU:=rfl
theorem e_tr:tR ↥adG=some p:=rfl
theorem qeQ:zBo ft ft' ω=andT Re ft' ω:=rfl
theorem e_ta:andT (some p) ft ω=if p=true then ft ω else some false:=rfl
theorem qgL:(if p=true then some q else some false)=some (p&&q):=by cases p <;> rfl
theorem qgW:zA4 ft ft' ω=orT Re ft' ω:=rfl
theorem e_to:orT (some p) ft ω=if p=true then some true else ft ω:=rfl
theorem qgJ:(if p=true then some true else some q)=some (p || q):=by cases p <;> rfl
theorem qe6:WD ft ω=notT Re:=rfl
theorem e_tn:notT (some p)=some (!p):=rfl
theorem qeF:W2 fd ω=truT oQ:=rfl
theorem qb9:truT (some adG)=some p:=rfl
theorem q8J:truT Qe=some (!ds.isEmpty):=rfl
theorem qdj:zBY fd fd' ω=andV oQ fd' ω:=rfl
theorem e_va:andV (some adG) fd ω=if p=true then fd ω else some dM:=rfl
theorem qgH:(if p=true then some (D.bl q)else some (D.bl false))=some (.bl (p&&q)):=by cases p <;> rfl
theorem qeC:X8 fd ω=seqI oQ:=rfl
theorem qdR:seqI Qe=some ds:=rfl
theorem qdC:seqI (some B2)=some ds:=rfl
theorem qh2:iRg1 fa ω=rg1I NV:=rfl
theorem qk3(h:-(2^62)<=a/\a<2^62):rg1I (some [cB])=some (upTo 0 a.toNat):=vH h
theorem qdo{M fr}:Xi M fr fi fg ft fd ω=compR M fr (fi ω) fg ft fd ω:=rfl
theorem WZ{M fr}(h:abP):compR M fr K4 fg ft fd ω=(X2 fg ft fd ds (inW M fr ω)).map R.fr:=vH h
theorem qgT:fNeg fd ω=(fd ω).bind oNeg:=rfl
theorem e_ng:oNeg cB=↥(.int (-a)):=rfl
theorem qbC:zAN [fQ]=↥Dy:=rfl
theorem qbh:zAN [B2]=↥Dy:=rfl
theorem qbe{ns}:zAN [Cg]=↥acb:=rfl
theorem q9T:zB8 [fQ]=some DH:=rfl
theorem qd9:oEq false cB eu=↥(.bl (a==b)):=rfl
theorem qdm:oEq true cB eu=↥(.bl (!(a==b))):=rfl
theorem qbR:zBC cB eu=↥(.int (a-b)):=rfl
theorem qee:oLt cB eu=↥(.bl (decide (a<b))):=rfl
theorem qdt:oLe cB eu=↥(.bl (decide (a<=b))):=rfl
theorem qea:oGt cB eu=↥(.bl (decide (b<a))):=rfl
theorem qb8:WC cB eu=↥(.int (a+b)):=rfl
theorem qc0:oIs true adG (.bl q)=↥(.bl (!(p==q))):=rfl
theorem qgX:oIx fQ cB=(atI ds a).map R.sh:=rfl
theorem qh3:oIx B2 cB=(atI ds a).map R.sh:=rfl
theorem qgV{ns:af}:oIx Cg cB=(atI ns a).map λn=>.sh Io:=rfl
theorem q1N{α:Type}{xs:bH}{i:Int}(h0:0<=i)(h1:i<xs.length):atI xs i=some (xs[i.toNat]'∅):=by
 unfold atI ixN;rw[vH h0,Qc];show xs[i.toNat]?=_;rw[zA ∅]
theorem at0{α:Type}{x:α}{xs:bH}:atI O8 0=some x:=by
 rw[q1N (by decide) (by rw[zJ];omega)];rfl
theorem at1{α:Type}{x y:α}{xs:bH}:atI (x::y::xs) 1=some y:=by
 rw[q1N (by decide) (by rw[zJ,zJ];omega)];rfl
theorem at2{α:Type}{x y z:α}{xs:bH}:atI (x::y::z::xs) 2=some z:=by
 rw[q1N (by decide) (by rw[zJ,zJ,zJ];omega)];rfl
theorem qi8{i j:Int}(h0:0<j)(h1:j<1073741824):cDiv i j=true:=by unfold cDiv;rw[vT h0,vT h1];rfl
theorem qij{i j:Int}(h0:0<j):cMod i j=true:=by unfold cMod;rw[vT h0]
theorem qfQ{i j:Int}(h0:-(2^64)<j)(h1:j<2^64):zCz i j=true:=by unfold zCz;rw[vT h0,vT h1];simp
theorem qf9{i j:Int}(h0:-(2^64)<i)(h1:i<2^64):zCz i j=true:=by unfold zCz;rw[vT h0,vT h1];simp
theorem q7b(h:0<b):oMod cB eu=↥(.int (a%b)):=vH (qij h)
theorem q7n(h:0<b)(h':b<1073741824):oDiv cB eu=↥(.int (a/b)):=vH (qi8 h h')
theorem q5Z(h:-(2^64)<b)(h':b<2^64):zBW cB eu=↥(.int (a*b)):=vH (qfQ h h')
theorem q97(h:-(2^64)<a)(h':a<2^64):zBW cB eu=↥(.int (a*b)):=vH (qf9 h h')
end
def zBO(o:Sh)(P:pF):Prop:=match o with
 | some (.nx,ω)=>P ω
 | some (.ct,ω)=>P ω
 | _=>False
theorem qbU{ω:WSt}{P:pF}:zBO (some DF) P=P ω:=rfl
theorem qfz{g:FG}{b:FS}(ds:aY)(I:List D->WSt->Prop)(turn:∀pre d post ω,ds=pre++d::post->I pre ω->∃w,g d ω=some w/\zBO (b w) (I IG)){ω:WSt}(h0:I [] ω):∃ω',zAk g b ds ω=some lT/\I ds ω':=by
 have key:∀(post pre:aY)(ω:WSt),ds=pre++post->I pre ω->∃ω',zAk g b post ω=some lT/\I ds ω':=by
  intro post
  induction post with
  | nil=>intro pre ω e h;exact⟨ω,rfl,by rw[e,zx];exact h⟩
  | cons d post ih=>
   intro pre ω e h;obtain⟨w,h1,h2⟩:=turn pre d post ω e h;rw[zAk,h1,yW]
   match hb:b w,h2 with
   | some (.nx,ω2),h2=>exact ih IG ω2 (by rw[e,zM];rfl) h2
   | some (.ct,ω2),h2=>exact ih IG ω2 (by rw[e,zM];rfl) h2
 exact key ds [] ω rfl h0
theorem q0a{α:Type}{g:FG}{b:FS}(F:α->D)(xs:bH)(I:List α->WSt->Prop)(turn:∀pre x post ω,xs=pre++x::post->I pre ω->∃w,g (F x) ω=some w/\zBO (b w) (I (pre++[x]))){ω:WSt}(h0:I [] ω):∃ω',zAk g b (xs.map F) ω=some lT/\I xs ω':=by
 have key:∀(post pre:bH)(ω:WSt),xs=pre++post->I pre ω->∃ω',zAk g b (post.map F) ω=some lT/\I xs ω':=by
  intro post
  induction post with
  | nil=>intro pre ω e h;exact⟨ω,rfl,by rw[e,zx];exact h⟩
  | cons d post ih=>
   intro pre ω e h;obtain⟨w,h1,h2⟩:=turn pre d post ω e h;rw[zZ,zAk,h1,yW]
   match hb:b w,h2 with
   | some (.nx,ω2),h2=>exact ih IG ω2 (by rw[e,zM];rfl) h2
   | some (.ct,ω2),h2=>exact ih IG ω2 (by rw[e,zM];rfl) h2
 exact key xs [] ω rfl h0
theorem q3C{g:FG}{c:FT}{f:FD}(P:pF)(q:D->Bool)(F:D->D):∀(ds:aY){ω:WSt},P ω ->
  (∀d∈ds,∀ω,P ω->∃w,g d ω=some w/\P w/\c w=some (q d)/\(q d=true->f w=some (F d)))->X2 g c f ds ω=some Sw
 | [],_,_,_=>rfl
 | d::ds,ω,h,t=>by
  obtain⟨w,h1,h2,h3,h4⟩:=t d zF ω h;have ih:=q3C P q F ds h2 abp;rw[X2,h1,yW,h3,yW];cases hq:q d with
  | true=>rw[lg,h4 hq,yW,ih,yu hq];rfl
  | false=>rw[vJ (by decide),ih,yv (by rw[hq];decide)]
theorem q3G{i:Nat}{f:FD}(F:D->D)(ds:aY){ω:WSt}(h:∀d∈ds,f jO=some (F d)):X2 R1 Xj f ds ω=some (ds.map F):=by
 have:=q3C (g:=gN i) (c:=Xj) (f:=f) (λw=>∀x,w.set i x=ω.set i x) Cn F ds (ω:=ω) Vj λd hd w hw=>
  ⟨w.set i ↥d,rfl,λx=>by rw[YJ,hw],rfl,λ_=>by rw[hw];exact h d hd⟩
 rw[this,Mi]
theorem q82{i:Nat}{c:FT}{f:FD}(q:D->Bool)(F:D->D)(ds:aY){ω:WSt}(h:∀d∈ds,c jO=some (q d)/\(q d=true->f jO=some (F d))):X2 R1 c f ds ω=some Sw :=
 q3C (g:=gN i) (c:=c) (f:=f) (λw=>∀x,w.set i x=ω.set i x) q F ds (ω:=ω) Vj λd hd w hw=>
  ⟨w.set i ↥d,rfl,λx=>by rw[YJ,hw],by rw[hw];exact(h d hd).1,λz=>by rw[hw];exact(h d hd).2 z⟩
theorem qfh{lo:Int}{n:Nat}{d:D}(h:d∈upTo lo n):∃i:Nat,i<n/\d=.int Dn:=by
 unfold upTo at h;obtain⟨i,h1,h2⟩:=zi.mp h;exact⟨i,xC.mp h1,h2.symm⟩
theorem qfv{lo:Int}{n:Nat}:(upTo lo n).length=n:=by unfold upTo;rw[zB,yC]
noncomputable def onI(F:cG):D->D
 | .int k=>.int (F k)
 | d=>d
theorem qgh{lo:Int}{n:Nat}(F:cG):(Hk.upTo lo n).map (onI F)=((zo n).map λ(i:Nat)=>F (lo+oa)).map D.int:=by
 unfold upTo;rw[yM,yM];rfl
theorem qgQ{ds:aY}{lo hi:fw}:oSl fQ lo hi=some (.fr EC):=rfl
theorem q1x{xs ys:aY}(h:xs.length+ys.length<=1000000):WC dk Ae=some (.fr Nx):=vH h
theorem q9x{ns:af}{i:Nat}(h:i<ns.length):atI gG oa=some (.int ns[i]):=by
 rw[q1N ∅ (by rw[zB];omega)];simp
theorem q9i{d:D}(h:acG):eqD d d=true:=SeqAt.eqv_refl d.py (SeqAt.canLay_of_shaped h)
theorem q4j{d:D}(h:acG):oEq false d d=↥cU:=by
 unfold oEq;rw[h];show some (R.sh (D.bl (eqD d d)))=_;rw[q9i h]
theorem q4t{d:D}(h:acG):oEq true d d=↥dM:=by
 unfold oEq;rw[h];show some (R.sh (D.bl (!eqD d d)))=_;rw[q9i h];rfl
theorem q7k{ds:aY}(n:Nat)(hn:n<64)(h:∀d∈ds,d.py.canLay0=true/\d.py.depth<=n):shp fQ=true:=by
 unfold shp SeqAt.shaped;have:∀ds:List D,(∀d∈ds,d.py.canLay0=true/\d.py.depth<=n)->PyData.canLayAll0 kj=true/\PyData.depthAll kj<=n:=by
  intro ds
  induction ds with
  | nil=>intro _;exact SC
  | cons d ds ih=>
   intro h;obtain⟨a,b⟩:=ih λe he=>h e KW;obtain⟨a',b'⟩:=h d zF;refine MX
   ·rw[D.pys,PyData.canLayAll0,a,a'];rfl
   ·rw[D.pys,PyData.depthAll];exact Nat.max_le.mpr ⟨b',b⟩
 obtain⟨a,b⟩:=this ds h;show (PyData.canLayAll0 kj&&decide (PyData.depthAll kj+1<=64))=true;rw[a,vT ∅];rfl
noncomputable def zBN(x:Int):List Int->List Int
 | []=>[x]
 | y::r=>if x<y then x::y::r else if x=y then y::r else y::zBN x r
noncomputable def XU(ns:af):List Int:=ns.foldr zBN []
theorem q6w{x y:Int}:∀{l:af},y∈zBN x l↔y=x\/y∈l
 | []=>by simp[zBN]
 | z::r=>by
  unfold zBN
  split
  ·simp
  ·split
   ·rename_i h;subst h;simp
   ·simp only[zG,q6w (l:=r)]
    constructor
    ·rintro(h|h|h) <;> simp[h]
    ·rintro(h|h|h) <;> simp[h]
theorem q88{x:Int}:∀{l:af},l.Pairwise (· < ·)->(zBN x l).Pairwise (· < ·)
 | [],_=>by simp[zBN]
 | z::r,h=>by
  obtain⟨h1,h2⟩:=za.mp h;unfold zBN
  split
  ·rename_i hx
   refine za.mpr ⟨O0,h⟩;rcases zG.mp hy with rfl|hy
   ·exact hx
   ·exact Int.lt_trans hx (h1 y hy)
  ·split
   ·exact h
   ·refine za.mpr ⟨O0,q88 h2⟩
    rcases q6w.mp hy with rfl|hy
    ·omega
    ·exact h1 y hy
theorem q1E{y:Int}:∀{ns:af},y∈XU ns↔y∈ns
 | []=>by simp[XU]
 | x::r=>by
  show y∈zBN x (XU r)↔_;rw[q6w,q1E (ns:=r),zG]
theorem q0I:∀{ns:af},(XU ns).Pairwise (· < ·)
 | []=>xU
 | x::r=>q88 (q0I (ns:=r))
theorem q9I{x:Int}:∀(l:af),(zBN x l).length<=l.length+1
 | []=>by simp[zBN]
 | z::r=>by
  have:=q9I (x:=x) r;unfold zBN
  split
  ·simp
  ·split
   ·simp
   ·rw[zJ,zJ];omega
theorem q0Y:∀(l:af),(XU l).length<=l.length
 | []=>zL _
 | x::r=>by
  have h1:=q9I (x:=x) (XU r);have h2:=q0Y r;show (zBN x (XU r)).length<=_;rw[zJ];omega
theorem qaO:∀{l m:af},l.Pairwise (· < ·)->m.Pairwise (· < ·)->(∀x,x∈l↔x∈m)->l=m
 | [],[],_,_,_=>rfl
 | [],y::r,_,_,h=>vP aeO (by simp)
 | x::r,[],_,_,h=>vP ((h x).mp zF) (by simp)
 | x::r,y::q,hl,hm,h=>by
  obtain⟨a1,a2⟩:=za.mp hl;obtain⟨b1,b2⟩:=za.mp hm;have e:x=y:=by
   rcases zG.mp ((h x).mp zF)with e|e
   ·exact e
   ·rcases zG.mp aeO with f|f
    ·exact f.symm
    ·have:=b1 x e;have:=a1 y f;omega
  subst e;rw[qaO a2 b2 λz=>?_]
  constructor
  ·intro hz
   rcases zG.mp ((h z).mp (zH _ hz))with f|f
   ·have:=a1 z hz;omega
   ·exact f
  ·intro hz
   rcases zG.mp ((h z).mpr (zH _ hz))with f|f
   ·have:=b1 z hz;omega
   ·exact f
theorem qaq{l:af}(h:l.Pairwise (· <= ·))(n:l.Nodup):l.Pairwise (· < ·):=by
 induction l with
 | nil=>exact xU
 | cons x r ih=>
  obtain⟨h1,h2⟩:=za.mp h;obtain⟨n1,n2⟩:=yx.mp n;refine za.mpr ⟨O0,ih h2 n2⟩;have:=h1 y hy;have:x≠y:=λe=>n1 (e▸hy);omega
def setP(w:vY)(S:vF)(ns:af):vk->Prop:=λh=>zCZ h S Sd iU ns.length
def rSet(w:vY):List V->Hp->VK->Prop:=λxs H Q=>∃p ns,xs=TC/\H p=some HQ/\ns.length+1<4096/\∀S,H S=none->Q hZ (upd H S Ug)
def fewS(ns:af):Prop:=(XU ns).length<64/\ns.length<4000
noncomputable instance (ns:List Int):Decidable (fewS ns):=inferInstanceAs (Decidable (_/\_))
theorem qed{ns:af}(h:To):fewS ns:=⟨Z5 (q0Y ns) h,∅⟩
def rSortS(w:vY):List V->Hp->VK->Prop:=λxs H Q=>∃S ns,xs=[hZ]/\H S=some Ug/\fewS ns/\∀l,H l=none->Q cM (upd H l (.lst HW))
section
variable{X:Cx}
theorem qe1{pins:aD}{σ:St}{H:Hp}{s:vC}(I:aal)(d:sy):L2.Inv X pins σ H { s with drawn:=d } :=
 ⟨I.ok,I.os,I.bare,I.base,I.loc,I.cell,I.free,I.freeC,I.pin,I.hok,I.len⟩
theorem qfc(hc:cV):WM X nH (rSet X.w):=by
 intro pins s σ H xs us Q I r h;obtain⟨p,ns,rfl,hp,hz,q⟩:=h;obtain⟨u,rfl,rx⟩:=vals1 r;cases rx;obtain⟨its,n,rv,e,_⟩:=I.lst hp;have ia:=q2O rv;have hlen:its.length=ns.length:=by rw[<- rv.length,zB]
 refine qag (items:=its.toArray) (ns:=ns) jV oj ⇑ia (by rw[zQ,hlen];exact hz) λh' tk sv kp=>?_;have hsz:its.toArray.size=ns.length:=by rw[zQ,hlen]
 rw[hsz]at sv;refine⟨aL,_,I.laid (t':=tk) (λb o e=>kp b o Ep e) bX (show Xg X.prog X.w _ h' _ (.ext (setP X.w s.heap.objs.size ns))from ⟨sv,?_,λh1 h2 a1 a2=>a1.at a2⟩),rfl,q _ nW⟩;obtain⟨_,⟨o,_,_,_,e,_⟩,_⟩:=sv;exact Ir
theorem qch(hc:cV):WM X gk (rSortS X.w):=by
 intro pins s σ H xs us Q I r h;obtain⟨S,ns,rfl,hp,hz,q⟩:=h;obtain⟨u,rfl,rx⟩:=vals1 r;cases rx;obtain⟨⟨zs,SI,hl,hm⟩,_⟩:=I.hok S _ hp;obtain⟨o,es,ep,t,go,gx,gd,T,gl,gb,gg,gv,gn⟩:=id SI;have mz:∀x,x∈zs↔x∈XU ns:=λx=>by
  rw[hm,q1E]
  constructor
  ·rintro⟨i,hi,rfl⟩
   dsimp only
   rw[zX,Vr];exact yZ hi
  ·intro hx
   obtain⟨i,hi,e⟩:=zY.mp hx;exact⟨i,hi,by dsimp only;rw[zX,Vr];exact e⟩
 have zl:=((wH gn ((q0I (ns:=ns)).imp λh=>∅)).mpr mz).length_eq;refine qc5 jV SI (by rw[zl];exact hz.1) λD h' tk d vs ys n kp hD hg ia pm pw=>?_;have ey:ys=XU ns:=qaO (qaq pw (pm.nodup_iff.mpr gn)) q0I λx=>by rw[pm.mem_iff,mz]
 subst ey;have hvl:vs.length=(XU ns).length:=PyProof.Rows.IntsAre.length ia;have hsl:(XU ns).length<=sizeLine:=by
  have:=pm.length_eq;exact yI (show (XU ns).length<=64 from yh hz.1) (by decide)
 have I2:=qe1 (I.laid (a:=D) (o:=.lst HW) (t':=tk) kp hD (show Xg X.prog X.w _ h' _ Uf from ⟨by rw[zB];exact hsl,vs,n,q1B ia,hg⟩)) d;exact⟨Jz,_,I2,rfl,q _ (I.hok.fresh hD)⟩
noncomputable def intsOf:List D->Option af
 | []=>some []
 | .int i::r=>(intsOf r).map λl=>i::l
 | _=>none
theorem q1w:∀{ds:aY}{ns:af},intsOf ds=some ns->ds=ns.map D.int
 | [],_,e=>by cases e;rfl
 | .int c::r,b,e=>by
  obtain⟨k,q,e⟩:=mpd e;subst e;rw[q1w q];rfl
 | .non::_,_,e=>by cases e
 | .bl _::_,_,e=>by cases e
 | .str _::_,_,e=>by cases e
 | .lst _::_,_,e=>by cases e
 | .tup _::_,_,e=>by cases e
 | .scr _::_,_,e=>by cases e
 | .exc _::_,_,e=>by cases e
 | .dic _ _::_,_,e=>by cases e
theorem q0J:∀(ns:af),intsOf gG=some ns
 | []=>rfl
 | n::r=>by show (intsOf (r.map D.int)).map _=_;rw[q0J r];rfl
noncomputable def zBB:D->Option R
 | .lst ds=>(intsOf ds).bind λns=>if fewS ns then some (.fr ((XU ns).map D.int))else none
 | _=>none
noncomputable def X9(f:FD):FE:=λω=>(f ω).bind zBB
theorem q4d{a:vW}{f:FD}{p1 p2 q1 q2:Pos}(hg1:Dt)(hm1:kZ)(hg2:Gl X "set")(hm2:X.mg "set" = none)(ha:dS)(hc:cV:=by rfl)(he1:mH:=by rfl)(hpl1:(vo q2 ck).any (·.1)=false:=by rfl)(he2:vK [pL] X.env=(false,eval pL X.env)::vK [] X.env:=by rfl)(hpl2:(vo q1 ck).any (·.1)=false:=by rfl):
  XE X (.Call (.Name "sorted" p1) [pL] [] q1) (X9 f):=by
 obtain⟨t,h1,h2⟩:=ha;refine⟨_,q2a (qch hc) hg1 hm1 q2v (qj (q8d (qfc hc) hg2 hm2 qjK (qj h1 qq he1) (by decide) (by decide) he1 hpl1) qq he2) (by decide) (by decide) he2 hpl2,b8⟩;obtain⟨d,q,e⟩:=bnd e;refine h2 G0 H0 G ω σ H d _ o q λv G1 H1 x1 y1=>?_;cases d with
 | lst ds=>
  obtain⟨ns,e1,e2⟩:=bnd (show (intsOf ds).bind _=some r from e);have hds:=q1w e1;subst hds
  by_cases hz:fewS ns
  ·rw[vH hz]at e2
   cases e2;obtain⟨p,vs,rfl,g1,g2⟩:=y1.lst x1.gh;have hv:=g2.of_ints;subst hv;refine⟨p,ns,rfl,g1,by have:=hz.2;omega,λS hS=>?_⟩;refine⟨S,ns,rfl,qe,hz,acn⟩;have x2:=Ext.hide x1.gh hS (.ext (setP X.w S ns));have x3:=Ext.hide x2.gh hl (.lst HW);exact k _ G1 _ CI ⟨l,_,rfl,(x1.trans x2).hh.free hl,x2.gh.free hl,qe,XB.ints _⟩
  ·rw[vJ hz]at e2;cases e2
 | _=>cases e
end
end Hk
namespace PySem.F
theorem noLenZip:u9 PV "__len__" = pure none:=by rw[uR,uE];kernel_rfl
theorem noHintZip:u9 PV "__length_hint__" = pure none:=by rw[uR,uE];kernel_rfl
end PySem.F
namespace Hk
open PySem PySem.Spec PyProof.Rows
section
variable{prog:vU}{w:vY}{A:vg}{E:vB->vC->Prop}{s:vC}
abbrev zAe(h:vk)(z TI TO:vF)(f0 f1:vB):Prop:=h.get? z=some { cls:=.type "zip", dict:=none,data:=.fields #[f0,f1,.bool false,.ref TI,.ref TO],slots:=#[] }
theorem qfU{a:vF}{Q:Option Obj->vC->Prop}(h:Q (s.heap.get? a) s):vQ ap A (loadIfAlive a) Q E s:=λ_ _ _=>h
theorem qbt{z TI TO t:vF}{ot:Obj}{f1:vB}{Q:rP}(hz:AZ)(ht:FB)(k:∀h' f1',zAe h' z TI TO (uf t) f1'->xu z s.heap h'->Q false { s with heap:=h' }):vQ ap A (Builtin.SmallTypes.ownedTupleIsFree iO) Q E s:=by
 unfold Builtin.SmallTypes.ownedTupleIsFree;refine vA (ue hz rfl (x:=uf t) rfl ?_);show vQ _ _ (loadIfAlive ((t:Int)).toNat >>= _) _ _ _;rw[yk];refine vA (qfU ?_);rw[ht];show vQ _ _ (field iO 1 >>= _) _ _ _;refine vA (ue hz rfl (x:=f1) rfl ?_);refine vi eW eW
 ·refine vA (uL hz (by simp) λh1 e1 sb=>vG (k h1 mX e1 sb))
 ·exact vG (k s.heap f1 hz (YH z s.heap))
theorem qcS{z TI TO i1 i2 l1 l2 t:vF}{ot:Obj}{f1:vB}{k1 k2:Nat}{xs ys:dI}{x y:vB}{Q:iz}(D:jY)(hz:AZ)(ht:FB)(hTI:K2)(h1:Pe)(h2:Pd)(hl1:aaN)(hl2:aaM)(hx:xs[k1]?=some x)(hy:ys[k2]?=some y)(hQ:∀h' f1',zAe h' z TI TO (uf t) f1'->h'.IsListIter i1 l1 (k1+1)->h'.IsListIter i2 l2 (k2+1)->u7 h' s.heap.objs.size x y ->
   (∀c o,c≠z->c≠i1->c≠i2->s.heap.get? c=some o->h'.get? c=some o)->Q (some aL) { s with heap:=h' }) :
  vQ ap A acy Q E s:=by
 have hT:s.TypeIs iO "zip" := OX;unfold ub;refine vA dz;show vQ _ _ (field iO 2 >>= _) _ _ _;refine vA Ic;show vQ _ _ (field iO 3 >>= _) _ _ _;refine vA Kt;refine vA acw;show vQ _ _ (Builtin.SmallTypes.ownedTupleIsFree iO >>= _) _ _ _;refine vA JR;simp only[yG,if_false];have a1:=h1.extBut sb1.extBut D.i1z;have a2:=h2.extBut sb1.extBut D.i2z;have b1:=hl1.extBut sb1.extBut D.l1z;have b2:=hl2.extBut sb1.extBut D.l2z;rw[<- Z6];simp only[Zi,Yn];refine vA (vA acv);show vQ _ _ (Builtin.SmallTypes.nextOf Qz >>= _) _ _ _;refine vA IA;refine vG ?_;refine vA acv;show vQ _ _ (Builtin.SmallTypes.nextOf Qy >>= _) _ _ _;refine vA (u8 Jt LO hy λh₃ c2 sb3=>vG ?_);refine vG gr;show vQ _ _ (newTuple [x,y] >>= _) _ _ _;refine vA (tU ?_);have hsz:h₃.objs.size=s.heap.objs.size:=by rw[sb3.1,sb2.1,sb1.1]
 refine vG ⟨_,rfl,gr⟩
 dsimp only
 rw[hsz];refine hQ _ f1' ?_ ?_ ?_ ?_ ?_
 ·exact zE _ (sb3.extBut _ _ D.i2z.symm (sb2.extBut _ _ D.i1z.symm hz1))
 ·exact(c1.extBut sb3.extBut D.i12).at λo e=>zE _ e
 ·exact c2.at λo e=>zE _ e
 ·have:=zU h₃ (o:={ cls:=.type "tuple", data:=.seq [x,y].toArray }) rfl
  rw[hsz]at this;exact this
 ·exact λc o n1 n2 n3 e=>zE _ (sb3.extBut _ _ n3 Ex)
theorem qfn{z TI TO i1 i2 l1 l2 t:vF}{ot:Obj}{f1:vB}{k1 k2:Nat}{xs ys:dI}{Q:iz}(hh:db)(D:jY)(hz:AZ)(ht:FB)(hTI:K2)(h1:Pe)(h2:Pd)(hl1:aaN)(hl2:aaM)(hend:xs[k1]?=none\/ys[k2]?=none)(hQ:∀h',(∀c o,c≠z->c≠i1->c≠i2->s.heap.get? c=some o->h'.get? c=some o)->Q none { s with heap:=h' }):
  vQ ap A acy Q E s:=by
 have hT:s.TypeIs iO "zip" := OX;unfold ub;refine vA dz;show vQ _ _ (field iO 2 >>= _) _ _ _;refine vA Ic;show vQ _ _ (field iO 3 >>= _) _ _ _;refine vA Kt;refine vA acw;show vQ _ _ (Builtin.SmallTypes.ownedTupleIsFree iO >>= _) _ _ _;refine vA JR;simp only[yG,if_false];have a1:=h1.extBut sb1.extBut D.i1z;have a2:=h2.extBut sb1.extBut D.i2z;have b1:=hl1.extBut sb1.extBut D.l1z;have b2:=hl2.extBut sb1.extBut D.l2z;rw[<- Z6];simp only[Zi,Yn];refine vA (vA acv);show vQ _ _ (Builtin.SmallTypes.nextOf Qz >>= _) _ _ _;cases hx:xs[k1]? with
 | none=>
  refine vA (t8 hh a1 b1 hx λh₂ e sb2 he=>?_);obtain⟨o,ho,hc⟩:=he;refine vA (ud (T := "StopIteration") (b:=true) ⟨o,ho,hc⟩ tT ?_);exact vG (hQ _ λc o n1 n2 n3 e=>sb2 _ _ n2 EQ)
 | some x=>
  have hy:ys[k2]?=none:=by rcases hend with h|h;rw[hx]at h;cases h;exact h
  refine vA IA;refine vG ?_;refine vA acv;show vQ _ _ (Builtin.SmallTypes.nextOf Qy >>= _) _ _ _;refine vA (t8 hh Jt LO hy λh₃ e sb3 he=>?_);obtain⟨o,ho,hc⟩:=he;refine vA (ud (T := "StopIteration") (b:=true) ⟨o,ho,hc⟩ tT ?_);exact vG (hQ _ λc o n1 n2 n3 e=>sb3 _ _ n3 Ex)
structure ZSt (h0:vk) (S z TI TO i1 i2 l1 l2:vF) (xs ys:Array vB) (ts:List vF) (h:vk):Prop where
 zip:(ts=[]/\zAe h z TI TO .none (.bool false))\/∃t f1,t∈ts/\zAe h z TI TO (uf t) f1
 pTI:u7 h TI (.ref i1) (.ref i2)
 pTO:∃a b,u7 h TO a b
 it1:h.IsListIter i1 l1 ts.length
 it2:h.IsListIter i2 l2 ts.length
 hl1:h.IsList l1 xs
 hl2:h.IsList l2 ys
 tups:∀(j:Nat)t,ts[j]?=some t->∃x y,xs[j]?=some x/\ys[j]?=some y/\u7 h t x y
 old:∀t∈ts,t≠S/\t≠z/\t≠TO/\t≠i1/\t≠i2
 nd:ts.Nodup
 new:∀t∈ts,h0.objs.size<=t
 keep:∀b o,b≠S->h0.get? b=some o->h.get? b=some o
theorem qgl{h0:vk}{S z TI TO i1 i2 l1 l2:vF}{xs ys:dI}{ts:cX}{Q:iz}(D:jY)(hf:∀b∈[z,TO,i1,i2],h0.get? b=none)(hS:S∉Ac)(Z:Eb)(hSo:∃o,s.heap.get? S=some o)(hsz:Mx)(hlt:ts.length<min xs.size ys.size)(k:∀h' t,ZSt h0 S z TI TO i1 i2 l1 l2 xs ys (ts++[t]) h'->(∀o,s.heap.get? S=some o->h'.get? S=some o)->s.heap.objs.size<=h'.objs.size->Q (some ku) { s with heap:=h' }):
  vQ ap A acy Q E s:=by
 have hix:ts.length<xs.size:=yA hlt (Zj ..);have hiy:ts.length<ys.size:=yA hlt (YV ..);obtain⟨a,b,hTO⟩:=Z.pTO;obtain⟨oS,hoS⟩:=hSo;have gx:=yD hix;have gy:=yD hiy;simp only[zG,zj,or_false,not_or]at hS;have nz:∀b o,h0.get? b=some o->b≠z/\b≠TO/\b≠i1/\b≠i2:=λb o e=>
  ⟨λq=>(by have:=hf z (by simp);rw[q,this]at e;cases e),λq=>(by have:=hf TO (by simp);rw[q,this]at e;cases e),λq=>(by have:=hf i1 (by simp);rw[q,this]at e;cases e),λq=>(by have:=hf i2 (by simp);rw[q,this]at e;cases e)⟩
 have fin:∀(h':vk)(f1:vB)(u:vF),u∈ts++[s.heap.objs.size]->zAe h' z TI TO (uf u) f1->(∃a b,u7 h' TO a b)->h'.IsListIter i1 l1 (ts.length+1)->h'.IsListIter i2 l2 (ts.length+1)->u7 h' s.heap.objs.size xs[ts.length] ys[ts.length] ->
   (∀c o,c≠z->c≠TO->c≠i1->c≠i2->s.heap.get? c=some o->h'.get? c=some o)->Q (some aL) { s with heap:=h' }:=λh' f1 u hu g1 g2 g3 g4 g5 g6=>by
  refine k h' _ ⟨.inr ⟨u,f1,hu,g1⟩,g6 _ _ D.TIz D.TITO D.TIi1 D.TIi2 Z.pTI,g2,by rw[zD];exact g3,by rw[zD];exact g4,Z.hl1.at λo e=>g6 _ o D.l1z D.l1TO D.l1i1 D.l1i2 e,Z.hl2.at λo e=>g6 _ o D.l2z D.l2TO D.l2i1 D.l2i2 e,λj t ht=>?_,λt ht=>?_,?_,λt ht=>?_,λb o hb e=>?_⟩ (λo e=>?_) (yh (zN g5))
  ·rcases zz j ts.length with y|y
   ·rw[ze y]at ht
    obtain⟨p,q,r1,r2,r3⟩:=Z.tups j t ht;have ho:=Z.old t (zg ht);exact⟨p,q,r1,r2,g6 _ _ ho.2.1 ho.2.2.1 ho.2.2.2.1 ho.2.2.2.2 r3⟩
   ·rw[zb y]at ht
    have hj:j=ts.length:=by
     rcases zz (j-ts.length) 1 with c|c
     ·omega
     ·rw[zu ⇑c]at ht;cases ht
    subst hj;rw[wY]at ht;cases ht;exact⟨_,_,gx,gy,g5⟩
  ·rcases zK.mp ht with ht|ht
   ·exact Z.old t ht
   ·rw[zR.mp ht]
    have lt:∀{c o},s.heap.get? c=some o->s.heap.objs.size≠c:=λe=>wL Ep;refine⟨lt hoS,?_,lt hTO,?_,?_⟩
    ·rcases Z.zip with⟨_,e⟩|⟨_,_,_,e⟩ <;> exact lt e
    ·obtain⟨_,e,_⟩:=Z.it1;exact lt e
    ·obtain⟨_,e,_⟩:=Z.it2;exact lt e
  ·refine yl.mpr ⟨Z.nd,by simp,λa ha b hb=>?_⟩
   rw[zR.mp hb];intro e;obtain⟨j,hj,ej⟩:=zY.mp ha;obtain⟨_,_,_,_,et⟩:=Z.tups j a (by rw[B9,ej]);exact vP (zN et) (by rw[e];exact xM _)
  ·rcases zK.mp ht with ht|ht
   ·exact Z.new t ht
   ·rw[zR.mp ht];exact hsz
  ·obtain⟨n1,n2,n3,n4⟩:=nz b o e
   exact g6 b o n1 n2 n3 n4 Kb
  ·exact g6 S o hS.1 hS.2.2.1 hS.2.2.2.1 hS.2.2.2.2.1 e
 rcases Z.zip with⟨_,hz⟩|⟨t,f1,ht,hz⟩
 ·exact t9 D hz Z.pTI hTO Z.it1 Z.it2 Z.hl1 Z.hl2 gx gy λh' a1 a2 a3 a4 a5 a6 a7=>fin h' _ _ (by simp) a1 ⟨_,_,a2⟩ a3 a4 a5 a7
 ·obtain⟨j,hj,ej⟩:=zY.mp ht
  obtain⟨_,_,_,_,et⟩:=Z.tups j t (by rw[B9,ej]);refine qcS D hz et Z.pTI Z.it1 Z.it2 Z.hl1 Z.hl2 gx gy λh' f1' a1 a3 a4 a5 a7=>fin h' f1' t (zV _ ht) a1 ⟨a,b,?_⟩ a3 a4 a5 λc o n1 _ n3 n4 e=>a7 c o n1 n3 n4 e;exact a7 _ _ D.TOz D.TOi1 D.TOi2 hTO
theorem qhU{h0:vk}{S z TI TO i1 i2 l1 l2:vF}{xs ys:dI}{ts:cX}{Q:iz}(hh:db)(D:jY)(Z:Eb)(hlt:ts.length=min xs.size ys.size)(k:∀h',(∀c o,c≠z->c≠TO->c≠i1->c≠i2->s.heap.get? c=some o->h'.get? c=some o)->Q none { s with heap:=h' }):
  vQ ap A acy Q E s:=by
 obtain⟨a,b,hTO⟩:=Z.pTO;have hend:xs[ts.length]?=none\/ys[ts.length]?=none:=by
  rcases YK xs.size ys.size with h|h
  ·left;exact yn ∅
  ·right;exact yn ∅
 rcases Z.zip with⟨_,hz⟩|⟨t,f1,ht,hz⟩
 ·exact sJ hh D hz Z.pTI hTO Z.it1 Z.it2 Z.hl1 Z.hl2 hend λh' g=>k h' g
 ·obtain⟨j,hj,ej⟩:=zY.mp ht
  obtain⟨_,_,_,_,et⟩:=Z.tups j t (by rw[B9,ej]);exact qfn hh D hz et Z.pTI Z.it1 Z.it2 Z.hl1 Z.hl2 hend λh' g=>k h' λc o n1 _ n3 n4 e=>g c o n1 n3 n4 e
end
end Hk
namespace Hk
open PySem PySem.Spec PySem.W PyProof.Rows
section
variable{prog:vU}{w:vY}{A:vg}{E:vB->vC->Prop}{R:sU->vC->Prop}{s:vC}
abbrev zAQ(h:vk)(S:vF)(acc:dI)(c:Nat):Prop:=h.get? S=some { cls:=.type "list", dict:=none,data:=.seq acc c,slots:=#[] }
theorem q7P{h0 h h':vk}{S z TI TO i1 i2 l1 l2:vF}{xs ys:dI}{ts:cX}(hS:S∉Ac)(Z:ZSt h0 S z TI TO i1 i2 l1 l2 xs ys ts h)(k:∀b o,b≠S->h.get? b=some o->h'.get? b=some o):
  ZSt h0 S z TI TO i1 i2 l1 l2 xs ys ts h':=by
 simp only[zG,zj,or_false,not_or]at hS;obtain⟨s1,s2,s3,s4,s5,s6,s7⟩:=hS;refine⟨?_,k _ _ (Ne.symm s2) Z.pTI,?_,Z.it1.at λo e=>k _ o (Ne.symm s4) e,Z.it2.at λo e=>k _ o (Ne.symm s5) e,Z.hl1.at λo e=>k _ o (Ne.symm s6) e,Z.hl2.at λo e=>k _ o (Ne.symm s7) e,λj t ht=>?_,Z.old,Z.nd,Z.new,λb o hb e=>k b o hb Kb⟩
 ·rcases Z.zip with⟨e1,e2⟩|⟨t,f1,e1,e2⟩
  ·exact .inl ⟨e1,UP⟩
  ·exact .inr ⟨t,f1,e1,UP⟩
 ·obtain⟨a,b,e⟩:=Z.pTO
  exact⟨a,b,k _ _ (Ne.symm s3) e⟩
 ·obtain⟨x,y,a1,a2,a3⟩:=Z.tups j t ht
  exact⟨x,y,a1,a2,k _ _ (Z.old t (zg ht)).1 a3⟩
theorem qfk{h0:vk}{S z TI TO i1 i2 l1 l2:vF}{xs ys:dI}{res:vB}(hh:db)(D:jY)(hf:∀b∈[z,TO,i1,i2],h0.get? b=none)(hS:S∉Ac)(hn:AD)(g0:Array sC)(d0:sy)(o0)(hR:∀(h':vk)(tk:Nat)(ts:cX)(c:Nat),ts.length=min xs.size ys.size->ts.Nodup->(∀t∈ts,t≠S/\h0.objs.size<=t)->zAQ h' S (ts.map Value.ref).toArray c->(∀b o,b≠S->h0.get? b=some o->h'.get? b=some o)->(∀(j:Nat)t,ts[j]?=some t->∃x y,xs[j]?=some x/\ys[j]?=some y/\u7 h' t x y)->R Dx ⟨h',g0,d0,tk,o0⟩):
  ∀(k:Nat)(h:vk)(tk:Nat)(ts:cX)(c:Nat),min xs.size ys.size-ts.length=k->ts.length<=min xs.size ys.size->ZSt h0 S z TI TO i1 i2 l1 l2 xs ys ts h->zAQ h S (ts.map Value.ref).toArray c->h0.objs.size<=h.objs.size ->
   uj ap A BD R ⟨h,g0,d0,tk,o0⟩:=by
 have hS':=hS;simp only[zG,zj,or_false,not_or]at hS';have nz:∀b o,h0.get? b=some o->b≠z/\b≠TO/\b≠i1/\b≠i2:=λb o e=>
  ⟨λq=>(by have:=hf z (by simp);rw[q,this]at e;cases e),λq=>(by have:=hf TO (by simp);rw[q,this]at e;cases e),λq=>(by have:=hf i1 (by simp);rw[q,this]at e;cases e),λq=>(by have:=hf i2 (by simp);rw[q,this]at e;cases e)⟩
 intro k
 induction k with
 | zero=>
  intro h tk ts c hk hi Z hl hsz;have hin:ts.length=min xs.size ys.size:=∅
  refine uQ PySem.F.entry_extend_loop ?_;rw[CG];show vQ _ A.in1 (ub iO >>= _) _ _ _;refine vA (qhU (A:=A.in1) hh D Z hin λh' g=>?_);refine vG (hR h' tk ts c hin Z.nd (λt ht=>⟨(Z.old t ht).1,Z.new t ht⟩) (g _ _ hS'.1 hS'.2.2.1 hS'.2.2.2.1 hS'.2.2.2.2.1 hl) KS λj t ht=>?_)
  ·obtain⟨n1,n2,n3,n4⟩:=nz b o e
   exact g b o n1 n2 n3 n4 Kb
  ·obtain⟨x,y,a1,a2,a3⟩:=Z.tups j t ht
   have ho:=Z.old t (zg ht);exact⟨x,y,a1,a2,g _ _ ho.2.1 ho.2.2.1 ho.2.2.2.1 ho.2.2.2.2 a3⟩
 | succ k ih=>
  intro h tk ts c hk hi Z hl hsz;have hlt:ts.length<min xs.size ys.size:=∅
  refine uQ PySem.F.entry_extend_loop ?_;rw[CG];show vQ _ A.in1 (ub iO >>= _) _ _ _;refine vA (qgl (A:=A.in1) D hf hS Z ⟨_,hl⟩ hsz hlt λh' t Z' hk' hsz'=>?_);have hl':=hk' _ hl;show vQ _ A.in1 (tP S (·.push ku) >>= _) _ _ _;refine vA ?_;have sz:(ts.map Value.ref).toArray.size=ts.length:=by simp
  have e:=get?_update_seq hl' (·.push (Value.ref t));have e2:(ts.map Value.ref).toArray.push ku=((ts++[t]).map Value.ref).toArray:=by simp
  rw[e2]at e;refine uS hl' rfl (vG ⟨fX,ih _ _ (ts++[t]) _ (by rw[zD,zT];omega) (by rw[zD,zT];omega) (q7P hS Z' λb o hb e=>?_) e (by rw[xi];exact yI hsz hsz')⟩)
   (by rw[sz];omega) (by show ((ts.map Value.ref).toArray.push ku).size<=sizeLine+1;rw[Zh,sz];omega)
  exact(zw _ _ ji).trans e
theorem qcd{h0:vk}{S z TI TO i1 i2 l1 l2:vF}{xs ys:dI}{res:vB}{c₀:Nat}(hh:db)(D:jY)(hf:∀b∈[z,TO,i1,i2],h0.get? b=none)(hS:S∉Ac)(hn:AD)(Z:ZSt h0 S z TI TO i1 i2 l1 l2 xs ys [] s.heap)(hl:zAQ s.heap S #[] c₀)(hsz:Mx)(hR:∀(h':vk)(tk:Nat)(ts:cX)(c:Nat),ts.length=min xs.size ys.size->ts.Nodup->(∀t∈ts,t≠S/\h0.objs.size<=t)->zAQ h' S (ts.map Value.ref).toArray c->(∀b o,b≠S->h0.get? b=some o->h'.get? b=some o)->(∀(j:Nat)t,ts[j]?=some t->∃x y,xs[j]?=some x/\ys[j]?=some y/\u7 h' t x y)->R Dx { s with heap:=h',toks:=tk }):
  vQ ap A.in1 (Builtin.List.listExtendWith hZ iO res)
   (λfin s'=>match fin with|.done f=>R adC s'|.again c'=>c'.quiet=true/\uj ap A c' R s') BQ s:=by
 obtain⟨hp,g,d,tk,os⟩:=s;have hS':=hS;simp only[zG,zj,or_false,not_or]at hS';obtain⟨_,hz⟩|⟨t,_,ht,_⟩:=Z.zip
 rotate_left
 ·cases ht
 have hT:Shared.TypeIs ⟨hp,g,d,tk,os⟩ iO "zip" := OX;unfold Builtin.List.listExtendWith;refine vA (uq (T := "zip") hT ?_);have h1:Builtin.List.listSameRef hZ iO=false:=by simp[Builtin.List.listSameRef,hS'.1]
 have h2:(Value.type "zip" == Value.type "list")=false:=by decide
 have h3:(Value.type "zip" == Value.type "tuple")=false:=by decide
 simp only[h1,h2,h3,wq,yG,if_false];refine vA (tf hz ?_);refine vA GT;unfold Builtin.List.listLengthHint;refine vA (ui hT PySem.F.noLenZip ?_);show vQ _ A.in1 (specialOf (Value.ref z) Kd >>= _) _ _ _;refine vA (ui hT PySem.F.noHintZip ?_);refine vG ?_;have key:∀(h:vk)(c₁:Nat),ZSt h0 S z TI TO i1 i2 l1 l2 xs ys [] h->zAQ h S #[] c₁->h0.objs.size<=h.objs.size->uj ap A BD R ⟨h,g,d,tk,os⟩ :=
  λh c₁ Z' hl' z'=>qfk hh D hf hS hn g d os (λh' tk' ts c a1 a2 a3 a4 a5 a6=>hR h' tk' ts c a1 a2 a3 a4 a5 a6) _ h tk [] c₁ rfl (zn _) Z' hl' z'
 refine vi eW (λ_=>vG ⟨fX,key _ c₀ Z hl hsz⟩);refine vA acz;refine vA ?_;show vQ _ _ (tP S (·.push .none) >>= λ_=>tP S (·.pop)) _ _ _;refine vA (uS hl rfl ?_);have hS₂:=xq (Obj.mapSeq (·.push Value.none)) hl rfl;refine uS (hz:=by seq_fits) hS₂ rfl ?_;have hS₃:=xq (Obj.mapSeq (·.pop)) hS₂ rfl;refine vG ⟨fX,key _ _ (q7P hS Z λb o hb e=>?_) hS₃ (by rw[xi,xi];exact hsz)⟩;exact(zw _ _ ji).trans ((zw _ _ ji).trans e)
theorem qfr{l1 l2:vF}{xs ys:dI}{Q:aQ}{s0:vC}(hh:db)(hl1:s0.heap.IsList l1 xs)(hl2:s0.heap.IsList l2 ys)(hn:AD)(hz:IsZip s.heap RS RU RT .none)(hp1:u7 s.heap RU (.ref s0.heap.objs.size) (.ref RV))(hp2:u7 s.heap RT .none .none)(hi1:s.heap.IsListIter s0.heap.objs.size l1 0)(hi2:s.heap.IsListIter RV l2 0)(hs:s.heap.objs.size=s0.heap.objs.size+5)(hk:∀c o,s0.heap.get? c=some o->s.heap.get? c=some o)(hQ:∀(h':vk)(tk:Nat)(S:vF)(ts:cX)(c:Nat),s0.heap.objs.size<=S->ts.length=min xs.size ys.size->ts.Nodup->(∀t∈ts,t≠S/\s0.heap.objs.size<=t)->zAQ h' S (ts.map Value.ref).toArray c->(∀b o,s0.heap.get? b=some o->h'.get? b=some o) ->
   (∀(j:Nat)t,ts[j]?=some t->∃x y,xs[j]?=some x/\ys[j]?=some y/\u7 h' t x y)->Q hZ { s with heap:=h',toks:=tk }) :
  vQ ap A (call Gi [.ref RS]) Q E s:=by
 refine callType_codes (Q₁:=λobj s₁=>obj=.ref s.heap.objs.size/\s₁={ s with heap:=s.heap.push { cls:=.type "list", data:=.seq #[] } }) PySem.F.called_list M9 PySem.F.entry_list_init
  (code_list_new _ dg) λobj s₁ h₁=>?_
 obtain⟨rfl,rfl⟩:=h₁;have hS:(s.heap.push { cls:=.type "list", data:=.seq #[] }).get? s.heap.objs.size=some { cls:=.type "list", data:=.seq #[] }:=zU _ rfl;refine Bj;generalize hn0:s0.heap.objs.size=n at *;have e1:l1<n:=by obtain⟨_,e,_⟩:=hl1;rw[<- hn0];exact zN e
 have e2:l2<n:=by obtain⟨_,e,_⟩:=hl2;rw[<- hn0];exact zN e
 generalize hS0:s.heap.objs.size=S at *;have D:tF (n+4) (n+2) (n+3) n (n+1) l1 l2:=by
  constructor <;> (intro q;simp only[vF]at *;omega)
 have hSn:S∉[n+4,n+2,n+3,n,n+1,l1,l2]:=by
  simp only[zG,zj,or_false,not_or];refine⟨?_,?_,?_,?_,?_,?_,?_⟩ <;> (intro q;simp only[vF]at *;omega)
 have hf:∀b∈[n+4,n+3,n,n+1],s0.heap.get? b=none:=λb hb=>by
  cases q:s0.heap.get? b with
  | none=>rfl
  | some o=>
   have:=zN q;rw[hn0]at this;simp only[zG,zj,or_false]at hb;simp only[vF]at *;omega
 show vQ _ _ (do let old <- Builtin.List.listItems (.ref S);Builtin.List.listUpdate hZ (λ_=>#[]);letGo old.toList.reverse;Builtin.List.listExtendWith hZ (.ref (n+4)) .none) _ _ _;refine vA ?_;unfold Builtin.List.listItems;refine vA adY;show vQ _ _ (tP S (λ_=>#[]) >>= λ_=>letGo (#[]:Array vB).toList.reverse >>= λ_=>Builtin.List.listExtendWith hZ (.ref (n+4)) .none) _ _ _;refine vA ad0;have hS₂:=get?_update_seq hS (λ_=>(#[]:Array vB));have oth:∀b o,b≠S->s.heap.get? b=some o->((s.heap.push { cls:=.type "list", data:=.seq #[] }).update S (Obj.mapSeq (λ_=>(#[]:Array vB)))).get? b=some o :=
  λb o hb e=>(zw _ _ ji).trans O5
 refine vA (rC ?_);have hSn':=hSn;simp only[zG,zj,or_false,not_or]at hSn';refine qcd (A:=A.in1) (h0:=s0.heap) hh D hf hSn hn ⟨.inl ⟨rfl,oth _ _ (Ne.symm hSn'.1) hz⟩,oth _ _ (Ne.symm hSn'.2.1) hp1,⟨_,_,oth _ _ (Ne.symm hSn'.2.2.1) hp2⟩,hi1.at λo e=>oth _ o (Ne.symm hSn'.2.2.2.1) e,hi2.at λo e=>oth _ o (Ne.symm hSn'.2.2.2.2.1) e,
  hl1.at λo e=>oth _ o (Ne.symm hSn'.2.2.2.2.2.1) (hk _ o e),hl2.at λo e=>oth _ o (Ne.symm hSn'.2.2.2.2.2.2) (hk _ o e),λj t ht=>(by simp at ht),λt ht=>(by simp at ht),xQ,λt ht=>(by simp at ht),λb o hb e=>oth b o hb (hk b o e)⟩ hS₂ (by rw[xi,yo,hn0,hS0];simp only[vF]at *;omega) λh' tk ts c a1 a2 a3 a4 a5 a6=>?_
 rw[hn0]at a3;exact⟨rfl,hQ h' tk S ts c (by simp only[vF]at *;omega) a1 a2 a3 a4 (λb o e=>a5 b o (λq=>by
  have:=zN e;rw[hn0,q]at this;simp only[vF]at *;omega) e) a6⟩
end
end Hk
namespace Hk
open PySem L2
section
variable{X:Cx}{pins:List (vF×Obj)}{σ:St}{H H':Hp}{s:vC}
theorem qfw{h':vk}{t':Nat}(I:aal)(k:∀b u,s.heap.get? b=some u->h'.get? b=some u)(hs:LY)(hn:∀b,H b=none->H' b≠none->s.heap.objs.size<=b)(new:∀b u,H b=none->H' b=some u->Xg X.prog X.w H' h' b u):L2.Inv X pins σ H' { s with heap:=h',toks:=t' }:=by
 refine I.un ⟨λb o q _ _ _=>k b o q,λb o q _ _ _=>⟨o.slots,k b o q⟩,λb o q n _=>?_,λb o q _=>⟨o,k b o q⟩,λb xs q=>hs _ _ q,λb o u q=>hs _ _ q,λb ps q=>⟨#[],by rw[hs _ _ q];simp⟩⟩ λb u e=>?_
 ·cases e:H' b with
  | none=>rfl
  | some u=>exact vP (zN q) (Ym.mpr (hn b n (by rw[e];exact λz=>by cases z)))
 ·cases q:H b with
  | none=>exact new b u q e
  | some u'=>
   have:=hs _ _ q;rw[e]at this;cases this;exact(I.hok b u q).stay (λc v _ z=>k c v z) (λc z=>hs _ _ z) λc xs z=>hs _ _ z
noncomputable def zBZ(H:Hp):List vF->List V->List V->Hp
 | t::ts,x::xs,y::ys=>upd (zBZ H ts xs ys) t Bg
 | _,_,_=>H
theorem q3g{b:vF}:∀{ts:cX}{xs ys:bg},b∉ts->zBZ H ts xs ys b=H b
 | [],_,_,_=>rfl
 | _::_,[],_,_=>rfl
 | _::_,_::_,[],_=>rfl
 | t::ts,x::xs,y::ys,h=>by
  rw[zG,not_or]at h;show upd _ t _ b=_;rw[qd h.1];exact q3g h.2
theorem q7x:∀{ts:cX}{xs ys:bg}{j:Nat}{t:vF}{x y:V},ts.Nodup->ts[j]?=some t->xs[j]?=some x->ys[j]?=some y->zBZ H ts xs ys t=some Bg
 | [],_,_,_,_,_,_,_,h,_,_=>by simp at h
 | _::_,[],_,_,_,_,_,_,_,h,_=>by simp at h
 | _::_,_::_,[],_,_,_,_,_,_,_,h=>by simp at h
 | u::ts,a::xs,b::ys,0,t,x,y,n,h1,h2,h3=>by
  simp at h1 h2 h3;subst h1;subst h2;subst h3;exact qe
 | u::ts,a::xs,b::ys,j+1,t,x,y,n,h1,h2,h3=>by
  simp only[xV]at h1 h2 h3;obtain⟨n1,n2⟩:=yx.mp n;show upd _ u _ t=_;rw[qd (λe=>n1 (by rw[<- e];exact zg h1))];exact q7x n2 h1 h2 h3
def rLZ:List V->Hp->VK->Prop:=λvs H2 Q=>∃p q xs ys,vs=[aO,OO]/\H2 p=some dk/\H2 q=some Ae /\
 ∀(S:vF)(ts:cX),H2 S=none->(∀t∈ts,H2 t=none/\t≠S)->ts.Nodup->ts.length=min xs.length ys.length->Q hZ (upd (zBZ H2 ts xs ys) S km)
theorem q65:∀{xs:bg}{us:bu},Xf xs us->∀{j:Nat}{u:vB},us[j]?=some u->∃x,xs[j]?=some x/\RelV x u
 | _,_,.nil,j,u,h=>by simp at h
 | _,_,.cons r1 r2,0,u,h=>by simp at h;subst h;exact OV
 | _,_,.cons r1 r2,j+1,u,h=>by
  simp only[xV]at h ⊢;exact q65 r2 h
theorem q8c:∀(ts:cX),Xf NC abC
 | []=>.nil
 | t::r=>.cons rfl (q8c r)
theorem qcg{a b:vW}{t:TA}{p1 p2 q1 q2:Pos}(hg1:aaq)(hm1:Kc)(hg2:PU)(hm2:CW)(ha:PA X Bb t)(hc:cV)(he1:NB)(hpl1:(vo q2 adX).any (·.1)=false)(he2:Cq)(hpl2:(vo q1 ck).any (·.1)=false):
  PE X HU (tCB rLZ t):=by
 intro pins s σ H Q I h;refine uJ (q17 I hg1 hm1 q1A ?_ (by decide) (by decide));refine PyProof.Rows.callWith_type1 ?_ he2 hpl2;rw[he2];show vQ _ _ DR _ _ s;refine Calls.spliced_cons ?_;refine uJ (q17 I hg2 hm2 qjF ?_ (by decide) (by decide));refine PyProof.Rows.callWith_type1 Ct he1 hpl1;obtain⟨vs,H1,I1,r1,q1⟩:=Z_
 ·obtain⟨p,q,xs,ys,rfl,hp,hq,k⟩:=q1
  obtain⟨u1,u2,rfl,e1,e2⟩:=vals2 r1;cases e1;cases e2;obtain⟨its1,n1,rv1,g1,z1⟩:=I1.lst hp;obtain⟨its2,n2,rv2,g2,z2⟩:=I1.lst hq;have il1:s1.heap.IsList p its1.toArray:=⟨_,g1,rfl,n1,rfl⟩;have il2:s1.heap.IsList q its2.toArray:=⟨_,g2,rfl,n2,rfl⟩;refine call_zip_2 il1 il2 λh' a1 a2 a3 a4 a5 a6 a7=>?_;refine Calls.spliced_nil ?_;have len1:its1.toArray.size=xs.length:=by rw[zQ,rv1.length]
  have len2:its2.toArray.size=ys.length:=by rw[zQ,rv2.length]
  refine qfr (s0:=s1) (I1.ok.hd hc) il1 il2 (by rw[len1];exact yI (Zj _ _) z1) a1 a2 a3 a4 a5 a6 a7 λh2 tk S ts c b1 b2 b3 b4 b5 b6 b7=>?_;rw[len1,len2]at b2;have fS:H1 S=none:=I1.hok.fresh b1;have ft:∀t∈ts,H1 t=none:=λt ht=>I1.hok.fresh (b4 t ht).2;have hsame:XL H1 Mm:=λb u e=>by
   have nS:b≠S:=λz=>by rw[z,fS]at e;cases e
   have nt:b∉ts:=λz=>by rw[ft b z]at e;cases e
   rw[qd nS,q3g nt];exact e
  have tup:∀(j:Nat)t,ts[j]?=some t->∃x y,xs[j]?=some x/\ys[j]?=some y/\zBZ H1 ts xs ys t=some Bg/\Xg X.prog X.w Mm h2 t Bg:=λj t ht=>by
   obtain⟨x',y',c1,c2,c3⟩:=b7 j t ht;obtain⟨x,d1,d2⟩:=q65 rv1 (j:=j) (u:=x') ⇑c1;obtain⟨y,d3,d4⟩:=q65 rv2 (j:=j) (u:=y') ⇑c2;exact⟨x,y,d1,d3,q7x b3 ht d1 d3,⟨by show 2<=sizeLine;decide,[x',y'],.cons d2 (.cons d4 .nil),⟨_,c3,rfl,_,rfl⟩⟩⟩
  refine⟨hZ,_,qfw (s:=s1) (t':=tk) I1 b6 hsame (λb n1 n2=>?_) (λb u n1 n2=>?_),rfl,k S ts fS (λt ht=>⟨ft t ht,(b4 t ht).1⟩) b3 b2⟩
  ·by_cases e:b=S
   ·rw[e];exact b1
   ·by_cases e':b∈ts
    ·exact(b4 b e').2
    ·rw[qd e,q3g e']at n2;exact vP n1 n2
  ·by_cases e:b=S
   ·subst e
    rw[qe]at n2;cases n2;refine⟨?_,abC,c,q8c ts,b5⟩;rw[zB,b2];exact yI (Zj _ _) z1
   ·by_cases e':b∈ts
    ·obtain⟨j,hj,ej⟩:=zY.mp e'
     obtain⟨x,y,_,_,m1,m2⟩:=tup j b (by rw[B9,ej]);rw[qd e,m1]at n2;cases n2;exact m2
    ·rw[qd e,q3g e',n1]at n2;cases n2
noncomputable def pairD(x y:D):D:=.tup [x,y]
noncomputable def Wl:List D->Option R
 | [.lst xs,.lst ys]=>some (.fr (ZZ pairD xs ys))
 | _=>none
theorem q1y{K:zC}{G:Hp}:∀{ds:aY}{ts:cX},ds.length=ts.length->(∀(j:Nat)d t,ds[j]?=some d->ts[j]?=some t->Rep K G d ku)->XB K G ds NC
 | [],[],_,_=>rfl
 | [],_::_,h,_=>by simp at h
 | _::_,[],h,_=>by simp at h
 | d::ds,t::ts,h,f=>⟨ku,_,rfl,f 0 d t rfl rfl,q1y ⇑h λj e u h1 h2=>f (j+1) e u ⇑h1 ⇑h2⟩
theorem qc6{K:zC}:zAM K rLZ Wl:=by
 intro G H ds vs d Q s e hv k
 match ds,e with
 | [.lst xs,.lst ys],e=>
  cases e;obtain⟨v,u,rfl,h,h'⟩:=hv.two;obtain⟨p,us,rfl,h1,h2⟩:=h.lst s;obtain⟨q,ws,rfl,h3,h4⟩:=h'.lst s;refine⟨p,q,us,ws,rfl,h1,h3,λS ts hS ht nd hl=>?_⟩
  let G':Hp:=λb=>if b∈ts then zBZ H ts us ws b else G b
  have hout:∀b,b∉ts->G' b=G b:=λb z=>vJ z;have hin:∀b,b∈ts->G' b=zBZ H ts us ws b:=λb z=>vH z;have gg:XL G G':=λb o z=>by
   have n:b∉ts:=λy=>by rw[s.free (ht b y).1]at z;cases z
   rw[hout b n];exact z
  have hh:XL H A4:=λb o z=>by
   have nS:b≠S:=λy=>by rw[y,hS]at z;cases z
   have n:b∉ts:=λy=>by rw[(ht b y).1]at z;cases z
   rw[qd nS,q3g n];exact z
  have gh:XL G' A4:=λb o z=>by
   by_cases y:b∈ts
   ·rw[hin b y]at z
    rw[qd (ht b y).2];exact z
   ·rw[Pl]at z
    exact hh b o (s _ _ z)
  have x:Ext G H G' A4:=⟨gg,gh,hh,λb z1 z2=>by
   have n:b∉ts:=λy=>z2 (ht b y).1;rw[hout b n];exact z1⟩
  have nS:S∉ts:=λy=>(ht S y).2 rfl;refine k _ G' _ x ⟨S,_,rfl,hS,by rw[hout S nS];exact s.free hS,qe,q1y ?_ λj d t e1 e2=>?_⟩
  ·rw[List.length_zipWith,hl,h2.len,h4.len]
  ·rw[List.getElem?_zipWith]at e1
   cases q1:xs[j]? with
   | none=>rw[q1]at e1;cases e1
   | some a=>
    cases q2:ys[j]? with
    | none=>rw[q1,q2]at e1;cases e1
    | some b=>
     rw[q1,q2]at e1;cases e1;obtain⟨va,y1,y2⟩:=h2.get q1;obtain⟨vb,y3,y4⟩:=h4.get q2;refine⟨t,[va,vb],rfl,?_,XB.cons (y2.mono gg) (XB.cons (y4.mono gg) XB.nil)⟩;rw[hin t (zg e2)];exact q7x nd e2 y1 y3
theorem qcF{a b:vW}{g:FA}{p1 p2 q1 q2:Pos}(hg1:aaq)(hm1:Kc)(hg2:PU)(hm2:CW)(ha:XVA X Bb g)(hc:cV:=by rfl)(he1:NB:=by rfl)(hpl1:(vo q2 adX).any (·.1)=false:=by rfl)(he2:Cq:=by rfl)(hpl2:(vo q1 ck).any (·.1)=false:=by rfl):
  XE X HU (WF Wl g):=by
 obtain⟨t,h1,h2⟩:=ha;exact⟨_,qcg hg1 hm1 hg2 hm2 h1 hc he1 hpl1 he2 hpl2,q7c qc6 h2⟩
end
section
variable{X:Cx}
end
noncomputable def whD(c:FT)(b:FS):Nat->FS
 | 0=>λ_=>none
 | n+1=>λω=>(c ω).bind λk=>if k=true then (b ω).bind (λp=>match p.1 with
   | .nx=>whD c b n p.2
   | .ct=>whD c b n p.2
   | .bk=>some (.nx,p.2)
   | .rt r=>some (.rt r,p.2))else some DF
noncomputable def sWh(n:Nat)(c:FT)(b:FS):FS:=whD c b n
section
variable{X:Cx}{c:vW}{body:List vm}{fc:FT}{fb:FS}{pos:Pos}{n:Nat}
theorem qej{K:zC}{t:TT}{u:TS}(h2:zBA K t fc)(h4:SimS K u fb):SimS K (zB2 t u) (sWh n fc fb):=by
 intro G0 H0 G ω σ H out ω' E o e k;refine⟨λm σ1 H1=>∃G1 ω1,Own K G0 H0 G1 ω1 σ1 H1/\XL G G1/\whD fc fb m ω1=some K7,⟨n,G,ω,o,dC,e⟩,λm σ1 H1 Z_=>?_⟩;obtain⟨G1,ω1,o1,g1,e1⟩:=Z_;cases m with
 | zero=>cases e1
 | succ m=>
  obtain⟨b,q,e1⟩:=bnd e1;refine h2 G0 H0 G1 ω1 σ1 H1 b _ o1 q λG2 H2 x2=>?_;cases b with
  | false=>cases e1;exact k G2 σ1 H2 (o1.keep x2) (g1.trans x2.gg)
  | true=>
   rw[lg];rw[lg]at e1;obtain⟨⟨o3,ω3⟩,q3,e1⟩:=bnd e1;refine⟨λσ' H'=>∃G1 ω1,Own K G0 H0 G1 ω1 σ' H'/\XL G G1/\whD fc fb m ω1=some K7,λσ' H' z=>⟨m,yj m,z⟩,?_⟩;refine h4 G0 H0 G2 ω1 σ1 H2 o3 ω3 _ (o1.keep x2) q3 λG4 σ4 H4 o4 g4=>?_;have gg:=(g1.trans x2.gg).trans g4;cases o3 with
   | nx=>exact Ux
   | ct=>exact Ux
   | bk=>cases e1;exact k G4 σ4 H4 o4 gg
   | rt r=>cases e1;exact k G4 σ4 H4 o4 gg
theorem qf7(hp:jv)(hc:XT X c fc)(hb:XSs X body fb):XS X Rz (sWh n fc fb):=by
 obtain⟨t,h1,h2⟩:=hc;obtain⟨u,h3,h4⟩:=hb;exact⟨_,q8Y hp h1 h3,qej h2 h4⟩
end
section
variable{fc:FT}{fb:FS}
def stepW(I:pF)(μ:WSt->Nat)(m:Nat)(J:pF)(o:Sh):Prop:=match o with
 | some (.nx,w)=>I w/\μ w<m
 | some (.ct,w)=>I w/\μ w<m
 | some (.bk,w)=>J w
 | _=>False
theorem q8N(I:pF)(μ:WSt->Nat)(J:pF)(stop:∀ω,I ω->fc ω=some false->J ω)(turn:∀ω,I ω->∃k,fc ω=some k/\FK):
  ∀(n:Nat)(ω:WSt),I ω->μ ω<n->∃ω',whD fc fb n ω=some lT/\J ω'
 | 0,_,_,z=>vP z Vv
 | n+1,ω,h,z=>by
  obtain⟨k,e,t⟩:=turn ω h;show ∃ω',((fc ω).bind _)=_/\_;rw[e];cases k with
  | false=>exact⟨ω,rfl,stop ω h e⟩
  | true=>
   have t:=t rfl;rw[show ∀(f:Bool->Option eX),(some true).bind f=f true from λ_=>rfl,vH rfl];cases q:fb ω with
   | none=>rw[q]at t;exact t.elim
   | some p=>
    rw[q]at t;obtain⟨o,w⟩:=p;cases o with
    | nx=>exact q8N I μ J stop turn n w t.1 (by have:=t.2;omega)
    | ct=>exact q8N I μ J stop turn n w t.1 (by have:=t.2;omega)
    | bk=>exact⟨w,rfl,t⟩
    | rt r=>exact t.elim
theorem qiu{n:Nat}(I:pF)(μ:WSt->Nat)(J:pF)(stop:∀ω,I ω->fc ω=some false->J ω)(turn:∀ω,I ω->∃k,fc ω=some k/\FK){ω:WSt}(h:I ω)(z:μ ω<n):∃ω',sWh n fc fb ω=some lT/\J ω':=q8N I μ J stop turn n ω h z
end
section
variable{X:Cx}{pos:Pos}{o:vW}{apos cpos:Pos}{i:Nat}
end
noncomputable abbrev FM:=WSt->Option (D×WSt)
def SimM(K:zC)(t:TE)(f:FM):Prop:=∀G0 H0 G ω σ H d ω'(Q:VK),Own K G0 H0 G ω σ H->f ω=some (d,ω') ->
 (∀v G' H',Own K G0 H0 G' ω' σ H'->XL G G'->Rep K G' d v->Q v H')->t σ H Q
def XM(X:Cx)(e:vW)(f:FM):Prop:=∃t,PE X e t/\SimM X.K t f
section
variable{X:Cx}{pos:Pos}{o e:vW}{apos cpos pos':Pos}{i:Nat}{fd:FD}{f:FM}
noncomputable def zCH(i:Nat)(f:FM):FS:=λω=>(f ω).map λp=>(.nx,p.2.set i abD)
theorem qhA{x:Str}(hN:X.N.Nodup)(hi:X.N[i]?=some x)(hx:fq)(he:XM X e f)(hs:mP:=by rfl)(hf:aN:=by first|exact .inl rfl|exact .inr rfl|assumption):
  XS X nh (zCH i f):=by
 obtain⟨t,h1,h2⟩:=he;refine⟨_,VJ,bU⟩;unfold zCH at e;cases q:f ω with
 | none=>rw[q]at e;cases e
 | some p=>
  obtain⟨d,ω1⟩:=p;rw[q]at e;cases e;exact h2 G0 H0 G ω σ H d ω1 _ o q λv G1 H1 o1 g1 r1=>k G1 _ H1 (o1.setSh r1) g1
end
section
variable{X:Cx}{a b c:vW}{pos:Pos}{fa fb fc:FD}{op op':rA}{p p':Int->Int->Bool}
end
noncomputable def zDG(x:Int):List Int->List Int
 | []=>[x]
 | y::r=>if x<=y then x::y::r else y::zDG x r
noncomputable def XZ(ns:af):List Int:=ns.foldr zDG []
theorem q4Z{x:Int}:∀{l:af},(zDG x l).Perm (x::l)
 | []=>.refl _
 | y::r=>by
  unfold zDG
  by_cases h:x<=y
  ·rw[vH h]
  ·rw[vJ h];exact(q4Z.cons y).trans (.swap x y r)
theorem qz:∀{l:af},(XZ l).Perm l
 | []=>.refl _
 | y::r=>q4Z.trans ((qz (l:=r)).cons y)
theorem qbu{x:Int}:∀{l:af},l.Pairwise (· <= ·)->(zDG x l).Pairwise (· <= ·)
 | [],_=>ZS _ _
 | y::r,h=>by
  obtain⟨h1,h2⟩:=za.mp h;unfold zDG
  by_cases z:x<=y
  ·rw[iP]
   refine za.mpr ⟨JJ,h⟩;cases ha with
   | head=>exact z
   | tail _ ha=>exact ye z (h1 a ha)
  ·rw[iw]
   refine za.mpr ⟨JJ,qbu h2⟩;cases (q4Z.mem_iff.mp ha:a∈x::r)with
   | head=>omega
   | tail _ ha=>exact h1 a ha
theorem q0E:∀{l:af},(XZ l).Pairwise (· <= ·)
 | []=>.nil
 | y::r=>qbu (q0E (l:=r))
theorem q0H:∀{l m:af},l.Pairwise (· <= ·)->m.Pairwise (· <= ·)->l.Perm m->l=m
 | [],m,_,_,p=>(List.Perm.nil_eq p)
 | a::l,m,h,h',p=>by
  cases m with
  | nil=>exact vP p.length_eq (by simp)
  | cons b m=>
   obtain⟨h1,h2⟩:=za.mp h;obtain⟨h3,h4⟩:=za.mp h';have hab:a=b:=by
    have x1:a∈b::m:=p.mem_iff.mp (.head _);have x2:b∈a::l:=p.mem_iff.mpr (.head _);cases x1 with
    | head=>rfl
    | tail _ x1=>
     cases x2 with
     | head=>rfl
     | tail _ x2=>have:=h3 a x1;have:=h1 b x2;omega
   subst hab;rw[q0H h2 h4 p.cons_inv]
theorem q59(l:af):(XZ l).length=l.length:=qz.length_eq
theorem qfT{l m:af}:XZ l=XZ m↔l.Perm m :=
 ⟨λh=>qz.symm.trans (h▸qz),λh=>q0H q0E q0E ((qz.trans h).trans qz.symm)⟩
def rSortL:List V->Hp->VK->Prop:=λxs H Q=>∃p ns,xs=TC/\H p=some HQ/\ns.length<64/\∀l,H l=none->Q cM GU
noncomputable def zCj:D->Option R
 | .lst ds=>(intsOf ds).bind λns=>if ns.length<64 then some nZ else none
 | _=>none
noncomputable def zAl(f:FD):FE:=λω=>(f ω).bind zCj
section
variable{X:Cx}
theorem qcA:WM X gk rSortL:=by
 intro pins s σ H xs us Q I r h;obtain⟨p,ns,rfl,hp,hz,q⟩:=h;obtain⟨u,rfl,rx⟩:=vals1 r;cases rx;obtain⟨its,n,rv,e,_⟩:=I.lst hp;have hlen:its.length=ns.length:=by rw[<- rv.length,zB]
 refine PyProof.Rows.sorted_ints oj (q2O rv) ∅ λout ns' a1 a2 a3=>?_;obtain⟨m,hm⟩:=PyProof.Rows.sortedAll_at s.heap its out;have en:ns'=XZ ns:=q0H a3 q0E IJ;subst en;have hsl:(XZ ns).length<=sizeLine:=by rw[q59];exact yI (yh hz) (by decide)
 have I2:=I.laid (a:=s.heap.objs.size+1) (o:=.lst ip) (t':=s.toks) Ff OF
  (show Xg X.prog X.w _ Fn _ Uf from ⟨by rw[zB];exact hsl,out.toList,m,q1B a1,by rw[xy];exact hm⟩)
 exact Dc
theorem q7r{a:vW}{f:FD}{p q:Pos}(hg:Dt)(hm:kZ)(ha:dS)(he:mH:=by rfl)(hpl:(vo q ck).any (·.1)=false:=by rfl):XE X U8 (zAl f):=by
 obtain⟨t,h1,h2⟩:=ha;refine⟨_,q2a qcA hg hm q2v (qj h1 qq he) (by decide) (by decide) he hpl,b8⟩;obtain⟨d,z,e⟩:=bnd e;refine h2 G0 H0 G ω σ H d _ o z λv G1 H1 x1 y1=>?_;cases d with
 | lst ds=>
  obtain⟨ns,e1,e2⟩:=bnd (show (intsOf ds).bind _=some r from e);have hds:=q1w e1;subst hds
  by_cases hz:ns.length<64
  ·rw[vH hz]at e2
   cases e2;obtain⟨p,vs,rfl,g1,g2⟩:=y1.lst x1.gh;have hv:=g2.of_ints;subst hv;refine Lz;have x2:=Ext.hide x1.gh hl adD;exact k _ G1 _ eO AW
  ·rw[vJ hz]at e2;cases e2
 | _=>cases e
end
end Hk
namespace Hk
open PySem PySem.Spec PyProof.Rows
theorem zCS:u9 Lr "__len__" = pure none:=by rw[uR,uE];kernel_rfl
theorem zC2:u9 Lr "__length_hint__" = pure (some (.builtin "list_reverseiterator.__length_hint__")):=by rw[uR,uE];kernel_rfl
section
variable{prog:vU}{w:vY}{A:vg}{E:vB->vC->Prop}{s:vC}
theorem qgg{r:vF}{Q:rP}(hT:s.TypeIs (.ref r) "list_reverseiterator")(h:Q false s):vQ ap A Gh Q E s:=by
 unfold Builtin.List.listLengthHint;refine vA (ui hT zCS ?_);show vQ _ A (specialOf (Value.ref r) Kd >>= _) _ _ _;refine vA (ui hT zC2 ?_);generalize hid:("list_reverseiterator.__length_hint__" : String)=id0
 wp_delta
 rw[show splitId id0=some ("list_reverseiterator", "__length_hint__")from by subst hid;decide +kernel];subst hid;refine vA (ud (T := "list_reverseiterator") (b:=true) hT (by rw[u6];kernel_rfl) ?_);refine vi (λhab=>vP hab (by decide)) eW;refine vi eW UA;refine vi (λhab=>vP hab ⋯) eW;exact vG h
theorem qcx{R:sU->vC->Prop}{S I l:vF}{items:dI}{res:vB}{c₀:Nat}(hh:db)(hn:Hj)(hSI:S≠I)(hSl:S≠l)(hne:l≠I)(hit:s.heap.IsRevIter I l (Lb-1))(hl:FC)(hS:zAQ s.heap S #[] c₀)(hR:∀(h':vk)(tk:Nat)(c:Nat),(∀b o,b≠S->b≠I->s.heap.get? b=some o->h'.get? b=some o)->zAQ h' S items.reverse c->R Dx { s with heap:=h',toks:=tk }):
  vQ ap A.in1 (Builtin.List.listExtendWith hZ CZ res)
   (λfin s'=>match fin with|.done f=>R adC s'|.again c'=>c'.quiet=true/\uj ap A c' R s') BQ s:=by
 have W:=Walks.listRev (prog:=prog) (w:=w) (A:=A.in1) hh I l hne items;have hT:=hit.typeIs;have hSf:S∉[I,l]:=by simp[hSI,hSl]
 unfold Builtin.List.listExtendWith;refine vA (uq (T := "list_reverseiterator") hT ?_);rw[show Builtin.List.listSameRef hZ CZ=false by simp[Builtin.List.listSameRef,hSI],show (Value.type "list_reverseiterator" == Value.type "list")=false by decide,show (Value.type "list_reverseiterator" == Value.type "tuple")=false by decide];refine vi (λhab=>vP hab (by decide)) eW;refine vA (wpAny_pyIter_revIter hit ?_);refine vA (vp (qgg hT ?_));refine vi (λhab=>vP hab (by decide)) eW;have st:0<=items.size/\s.heap.IsRevIter I l (Lb-1-CL)/\s.heap.IsList l items:=⟨pB,by simpa using hit,hl⟩;refine vG ⟨fX,sG W.toS hn S hSf res items.size 0 _ #[] c₀ rfl (zn _) st hS adr λs' acc' c' hm hS' hacc=>?_⟩;rw[MI];have e:acc'=items.reverse:=by
  apply Array.ext_getElem?;intro j;rcases zz j items.size with z|z
  ·have hz:j<acc'.size:=by rw[hacc.1];exact z
   have q:acc'[j]?=some acc'[j]:=yD hz;rw[q,Array.getElem?_reverse z];exact(hacc.2 j _ q).symm
  ·rw[yn (by rw[hacc.1];exact z),yn (by rw[Array.size_reverse];exact z)]
 subst e;exact hR s'.heap s'.toks c' (λb o b1 b2 e=>hm.heap b o (by simp[b1,b2]) e) hS'
theorem qfa{l:vF}{items:dI}{Q:aQ}(hh:db)(hn:Hj)(hl:FC)(hQ:∀(h':vk)(tk:Nat)(S:vF)(c:Nat),s.heap.objs.size<=S->(∀b o,s.heap.get? b=some o->h'.get? b=some o)->zAQ h' S items.reverse c->Q hZ { s with heap:=h',toks:=tk }):
  vQ ap A (call Gi [aL]) Q E { s with heap:=s.heap.push iy }:=by
 have hll:l<s.heap.objs.size:=by obtain⟨_,e,_⟩:=hl;exact zN e
 have gI:(s.heap.push iy).get? s.heap.objs.size=some iy:=zU _ rfl;have k1:∀b o,s.heap.get? b=some o->(s.heap.push iy).get? b=some o:=λb o e=>zE _ e;generalize hI:s.heap.objs.size=I at *;generalize hp:s.heap.push iy=h1 at *;have hI1:I<h1.objs.size:=zN gI;have hS:(h1.push { cls:=.type "list", data:=.seq #[] }).get? h1.objs.size=some { cls:=.type "list", data:=.seq #[] }:=zU _ rfl;refine callType_codes (s:={ s with heap:=h1 }) (Q₁:=λobj s₁=>obj=.ref h1.objs.size/\s₁={ s with heap:=h1.push { cls:=.type "list", data:=.seq #[] } }) PySem.F.called_list M9 PySem.F.entry_list_init
  (code_list_new _ dg) λobj s₁ z=>?_
 obtain⟨rfl,rfl⟩:=z;refine Bj;generalize hS0:h1.objs.size=S at *;show vQ _ _ (do let old <- Builtin.List.listItems (.ref S);Builtin.List.listUpdate hZ (λ_=>#[]);letGo old.toList.reverse;Builtin.List.listExtendWith hZ CZ .none) _ _ _;apply vA;unfold Builtin.List.listItems;refine vA adY;show vQ _ _ (tP S (λ_=>#[]) >>= λ_=>letGo (#[]:Array vB).toList.reverse >>= λ_=>Builtin.List.listExtendWith hZ CZ .none) _ _ _;refine vA ad0;have hS2:=get?_update_seq hS (λ_=>(#[]:Array vB));have oth:∀b o,b≠S->h1.get? b=some o->((h1.push { cls:=.type "list", data:=.seq #[] }).update S (Obj.mapSeq (λ_=>(#[]:Array vB)))).get? b=some o :=
  λb o hb e=>(zw _ _ ji).trans O5
 refine vA (rC ?_);have n1:S≠I:=by simp only[vF]at *;omega
 have n2:S≠l:=by simp only[vF]at *;omega
 have n3:l≠I:=by simp only[vF]at *;omega
 refine qcx (A:=A.in1) (items:=items) (I:=I) (l:=l) hh hn n1 n2 n3 ⟨_,oth _ _ (Ne.symm n1) gI,rfl,rfl⟩ (hl.at λo e=>oth l o (Ne.symm n2) (k1 l o e)) hS2 λh' tk c kp e=>?_;refine⟨rfl,hQ h' tk S c (by simp only[vF]at *;omega) (λb o z=>?_) e⟩;have hb:b<I:=hI▸zN z;exact kp b o (by simp only[vF]at *;omega) (by simp only[vF]at *;omega) (oth b o (by simp only[vF]at *;omega) (k1 b o z))
end
open L2
def rLR:List V->Hp->VK->Prop:=λvs H Q=>∃p xs,vs=TC/\H p=some dk/\∀S,H S=none->Q hZ (upd H S aa9)
section
variable{X:Cx}
theorem qcq{a:vW}{t:TA}{p1 p2 q1 q2:Pos}(hg1:aaq)(hm1:Kc)(hg2:Gl X "reversed")(hm2:X.mg "reversed" = none)(ha:PA X [a] t)(hc:cV)(he1:mH)(hpl1:(vo q2 ck).any (·.1)=false)(he2:vK [nL] X.env=(false,eval nL X.env)::vK [] X.env)(hpl2:(vo q1 ck).any (·.1)=false):
  PE X (.Call abe [nL] [] q1) (tCB rLR t):=by
 intro pins s σ H Q I h;refine uJ (q17 I hg1 hm1 q1A ?_ (by decide) (by decide));refine PyProof.Rows.callWith_type1 ?_ he2 hpl2;rw[he2];show vQ _ _ DR _ _ s;refine Calls.spliced_cons ?_;refine uJ (q17 I hg2 hm2 PyProof.Rows.boot_reversed ?_ (by decide) (by decide));refine PyProof.Rows.callWith_type1 Ct he1 hpl1;obtain⟨vs,H1,I1,r1,z1⟩:=Z_;obtain⟨p,xs,rfl,hp,k⟩:=z1;obtain⟨u,rfl,e1⟩:=vals1 r1;cases e1;obtain⟨its,n,rv,g1,sz⟩:=I1.lst hp;have il:s1.heap.IsList p its.toArray:=⟨_,g1,rfl,n,rfl⟩;refine call_reversed_list il (Calls.spliced_nil ?_);refine qfa (I1.ok.hd hc) (by rw[zQ,<- rv.length];exact sz) il λh2 tk S c b1 b2 b3=>?_;refine⟨hZ,_,I1.laid (t':=tk) b2 b1 (show Xg X.prog X.w _ h2 S aa9 from ⟨by rw[xX];exact sz,its.reverse,c,rv.reverse,by rw[b3];simp⟩),rfl,k S (I1.hok.fresh b1)⟩
end
end Hk
namespace L2
open PySem PySem.Spec PyProof.Rows
theorem Inv.turnedL{X:Cx}{pins:aD}{σ:List jP}{H:Hp}{s:vC}{h':vk}{t':Nat}{fp:cX}(I:au)(k:∀b o,b∉fp->s.heap.get? b=some o->h'.get? b=some o)(hf:∀b∈fp,Wm X pins H b):
  Inv X pins σ H { s with heap:=h',toks:=t' }:=by
 have nit:∀b u,H b=some u->b∉fp:=λb u e z=>by have:=(hf b z).1;rw[e]at this;cases this
 refine I.step (g':=s.gens) (d':=s.drawn) (ch:=fp) kP (λb o _ _ hc e _=>k b o hc e) (λb o _ _ hc e _=>⟨o.slots,k b o hc e⟩) abr
  (λb o hc e=>⟨o,k b o hc e⟩) (λ_ _ e=>e) adR (λb ps e=>⟨#[],by rw[e];simp⟩) (λm hm=>?_) (λb u e=>?_) I.bare
 ·obtain⟨f0,f1,f2,f3,f4,f5⟩:=hf b hb
  exact ack
 ·obtain⟨o,es,ep,ho,r⟩:=hm
  exact⟨o,es,ep,k _ o (λz=>(hf _ z).2.1 rfl) ho,r⟩
 ·refine(I.hok b u e).stay O1 Nq λ_ _ q=>q
  rcases hc with z|z
  ·rw[z];exact nit b u e
  ·exact nit c _ z
noncomputable def Itz(K:zC)(a b:vF):It :=
 ⟨λi H=>∃xs ys x y,SqL K H a xs/\SqL K H b ys/\xs[i]?=some x/\ys[i]?=some y,
  λi H x H'=>∃t x1 y1,H t=none/\x=.ref t/\H'=upd H t aeF/\∀xs ys,SqL K H a xs->SqL K H b ys->xs[i]?=some x1/\ys[i]?=some y1,
  λi H=>∃xs ys,SqL K H a xs/\SqL K H b ys/\(xs[i]?=none\/ys[i]?=none)⟩
theorem qfK{P:vU}{w:vY}{K:zC}{elts:jw}{kx}{tpos:Pos}(a b z TI TO i1 i2:vF)(D:tF z TI TO i1 i2 a b):
  Turn P w K ko Ua [z,TI,TO,i1,i2] z (λi h=>IsZip h z TI TO .none/\u7 h TI Qz Qy/\(∃x y,u7 h TO x y)/\h.IsListIter i1 a i/\h.IsListIter i2 b i) where
 mem:=by simp
 obj:=λi h st c hc=>by
  obtain⟨s1,s2,⟨_,_,s3⟩,⟨o4,e4,c4,d4⟩,⟨o5,e5,c5,d5⟩⟩:=st;simp only[zG,zj,or_false]at hc;rcases hc with rfl|rfl|rfl|rfl|rfl
  ·exact⟨_,s1,λv y=>by cases (show Data.fields _=Data.cell v from y)⟩
  ·exact⟨_,s2,λv y=>by cases (show Data.seq _ _=Data.cell v from y)⟩
  ·exact⟨_,s3,λv y=>by cases (show Data.seq _ _=Data.cell v from y)⟩
  ·exact⟨_,e4,λv y=>by rw[d4]at y;cases y⟩
  ·exact⟨_,e5,λv y=>by rw[d5]at y;cases y⟩
 keep:=λi h h' st k=>by
  obtain⟨s1,s2,⟨x,y,s3⟩,s4,s5⟩:=st;exact⟨k _ (by simp) _ s1,k _ (by simp) _ s2,⟨x,y,k _ (by simp) _ s3⟩,s4.at λo e=>k _ (by simp) o e,s5.at λo e=>k _ (by simp) o e⟩
 item:=by
  intro X hP hw hK hc i pins s σ H E I hf st hg;subst hP hw hK;obtain⟨xs,ys,x,y,hq1,hq2,hx,hy⟩:=hg;obtain⟨its1,rv1,p1,hz1⟩:=I.list hq1;obtain⟨its2,rv2,p2,hz2⟩:=I.list hq2;obtain⟨u1,hu1,ru1⟩:=rv1.get hx;obtain⟨u2,hu2,ru2⟩:=rv2.get hy;obtain⟨s1,s2,⟨_,_,s3⟩,s4,s5⟩:=st;have ex:∀c∈[z,TI,TO,i1,i2],∃o,s.heap.get? c=some o:=λc hc=>by
   simp only[zG,zj,or_false]at hc;rcases hc with rfl|rfl|rfl|rfl|rfl
   ·exact⟨_,s1⟩
   ·exact⟨_,s2⟩
   ·exact⟨_,s3⟩
   ·obtain⟨o,e,_⟩:=s4;exact Ir
   ·obtain⟨o,e,_⟩:=s5;exact Ir
  have nt:∀c∈[z,TI,TO,i1,i2],c≠s.heap.objs.size:=λc hc=>by
   obtain⟨o,e⟩:=ex c hc;exact zy Ep
  refine t9 D s1 s2 s3 s4 s5 p1.isList p2.isList (x:=u1) (y:=u2) (by simpa using hu1) (by simpa using hu2) λh' a1 a2 a3 a4 a5 a6 hk=>?_;have hn:H s.heap.objs.size=none:=I.hok.fresh bX;have I1:Inv X pins σ ju { s with heap:=s.heap.push { cls:=.type "tuple", data:=.seq #[u1,u2] },toks:=s.toks } :=
   I.laid aaH bX (show Xg X.prog X.w _ _ _ Bg from ⟨by show 2<=sizeLine;decide,[u1,u2],.cons ru1 (.cons ru2 .nil),GK⟩)
  have hf':∀c∈[z,TI,TO,i1,i2],Wm X pins ju c:=λc hc=>by
   obtain⟨f0,f⟩:=hf c hc;exact⟨by rw[qd (nt c hc)];exact f0,f⟩
  have I2:Inv X pins σ ju { s with heap:=h',toks:=s.toks }:=I1.turnedL (λb o hb e=>by
   simp only[zG,zj,or_false,not_or]at hb
   by_cases q:b=s.heap.objs.size
   ·subst q
    rw[jt]at e;cases e;exact a5
   ·have e':s.heap.get? b=some o:=by
     rcases zz b s.heap.objs.size with l|l
     ·obtain⟨z1,z2⟩:=wV.mp e
      refine wV.mpr ⟨?_,z2⟩;rw[<- z1];show s.heap.objs[b]?=(s.heap.objs.push _)[b]?;rw[Zr,vJ q]
     ·have:=zN e
      rw[yo]at this;exact vP (by simp only[vF]at *;omega) q
    exact hk b o hb.1 hb.2.2.1 hb.2.2.2.1 hb.2.2.2.2 e') hf'
  refine⟨_,rfl,wpAny_letOwnedTupleGo_zip a1 λh2 b1 sb=>?_⟩;have I3:Inv X pins σ ju { s with heap:=h2,toks:=s.toks }:=I2.turnedL (λb o hb e=>(sb.2 b (λq=>hb (by simp[q]))).trans e) hf';refine⟨aL,_,I3,rfl,⟨_,x,y,hn,rfl,rfl,λxs' ys' q1 q2=>⟨by rw[I.list_inj q1 hq1];exact hx,by rw[I.list_inj q2 hq2];exact hy⟩⟩,⟨b1,?_,⟨u1,u2,sb.extBut _ _ D.TOz a2⟩,a3.extBut sb.extBut D.i1z,a4.extBut sb.extBut D.i2z⟩,Vn⟩;exact sb.extBut _ _ D.TIz (hk _ _ D.TIz D.TITO D.TIi1 D.TIi2 s2)
 done:=by
  intro X hP hw hK hc i pins s σ H E I hf st hg;subst hP hw hK;obtain⟨xs,ys,hq1,hq2,hx⟩:=hg;obtain⟨its1,rv1,p1,hz1⟩:=I.list hq1;obtain⟨its2,rv2,p2,hz2⟩:=I.list hq2;obtain⟨s1,s2,⟨_,_,s3⟩,s4,s5⟩:=st;have l1:=rv1.length;have l2:=rv2.length;refine sJ jV D s1 s2 s3 s4 s5 p1.isList p2.isList ?_ λh' hk=>Bk
  ·rcases hx with hx|hx
   ·exact .inl (by rw[wO]at hx;simp;omega)
   ·exact .inr (by rw[wO]at hx;simp;omega)
  ·simp only[zG,zj,or_false,not_or]at hb
   exact hk b o hb.1 hb.2.2.1 hb.2.2.2.1 hb.2.2.2.2 e
 self:=λ_ _ _ _ _ st h=>tf st.1 h
noncomputable def iZip(K:zC)(ta:TA):TI:=λσ H R=>ta σ H λvs H1=>∃a b xs ys,vs=[dH,DE]/\SqL K H1 a xs/\SqL K H1 b ys/\R Ua H1
theorem qje{X:Cx}{a b:vW}{ta:TA}{p pos tpos:Pos}{elts:jw}{kx}(hg:PU)(hm:CW)(ha:PA X Bb ta)(hs:aaK:=by rfl)(hs2:acu:=by rfl):
  PI X ko JB (iZip X.K ta):=by
 intro pins s σ H R I h;refine Call_ (q17 I hg hm PyProof.Rows.boot_zip (PyProof.Rows.callWith_type1 (thn ii λus s1 ⟨vs,H1,I1,r1,q1⟩=>?_) (by rw[hs,hs2]) (by rw[hs2];rfl)));obtain⟨l1,l2,xs,ys,e,hq1,hq2,q⟩:=q1;subst e;cases r1 with
 | cons r rr=>
  cases rr with
  | cons r' rr=>
   cases rr;cases r;cases r';obtain⟨its1,rv1,p1,hz1⟩:=I1.list hq1;obtain⟨its2,rv2,p2,hz2⟩:=I1.list hq2;have e1:l1<s1.heap.objs.size:=by obtain⟨_,_,e,_⟩:=p1;exact zN e
   have e2:l2<s1.heap.objs.size:=by obtain⟨_,_,e,_⟩:=p2;exact zN e
   refine call_zip_2 p1.isList p2.isList λh' a1 a2 a3 a4 a5 a6 hk=>?_;refine tf a1 ?_;have D:tF GX UL UK s1.heap.objs.size AN l1 l2:=by
    generalize s1.heap.objs.size=n at *
    constructor <;> (intro q;simp only[vF]at *;omega)
   refine⟨GX,[GX,UL,UK,s1.heap.objs.size,AN],_,_,H1,rfl,Ru,qfK l1 l2 _ _ _ _ _ D,⟨a1,a2,⟨_,_,a3⟩,a4,a5⟩,λc hc=>?_,q⟩;have hle:s1.heap.objs.size<=c:=by
    simp only[zG,zj,or_false]at hc;simp only[vF]at *;omega
   have I2:=I1.kept (t':=s1.toks) hk;exact I1.fpOk hle aap
end L2
namespace Hk
open PySem L2
noncomputable def zAV:List D->List D->List D
 | a::as,b::bs=>.tup Bb::zAV as bs
 | _,_=>[]
theorem q6h:∀(as bs:aY),(zAV as bs).length=min as.length bs.length
 | a::as,b::bs=>by show (zAV as bs).length+1=_;rw[q6h as bs,zJ,zJ];omega
 | [],bs=>by cases bs <;> simp[zAV]
 | a::as,[]=>by simp[zAV]
theorem q9N:∀(as bs:aY)(i:Nat)(d:D),(zAV as bs)[i]?=some d->∃a b,as[i]?=some a/\bs[i]?=some b/\d=.tup Bb
 | a::as,b::bs,0,d,h=>by cases h;exact⟨a,b,rfl,rfl,rfl⟩
 | a::as,b::bs,i+1,d,h=>q9N as bs i d h
 | [],bs,i,d,h=>by cases bs <;> cases h
 | a::as,[],i,d,h=>by cases h
theorem qfM{K:zC}{G:Hp}{a b:vF}{ds es:aY}{vs us:bg}(h1:aas)(h2:oi)(h3:G b=some (.lst us))(h4:TR):IterOf K Ua G (zAV ds es):=by
 have l1:=h2.len;have l2:=h4.len;refine⟨GO,iI,λH s=>⟨vs,us,MD,SqL.of NE,?_⟩⟩
 ·rw[q6h]at hi
  exact⟨vs,us,vs[i]'∅,us[i]'∅,MD,SqL.of NE,zA _,zA _⟩
 ·obtain⟨t,x1,y1,ht,rfl,rfl,y⟩:=hy
  obtain⟨e1,e2⟩:=y vs us TU (SqL.of (s1 _ _ (s0 _ _ h3)));obtain⟨p,q,f1,f2,rfl⟩:=q9N ds es i d hd;obtain⟨v,q1,q2⟩:=h2.get f1;obtain⟨u,q3,q4⟩:=h4.get f2;rw[e1]at q1;cases q1;rw[e2]at q3;cases q3;have x2:=Ext.lay s1 ht aeF;exact⟨_,x2,⟨t,_,rfl,qe,XB.cons (q2.mono K5) (XB.cons (q4.mono K5) XB.nil)⟩⟩
 ·rw[q6h]
  rcases YK ds.length es.length with h|h
  ·exact .inl Vp
  ·exact .inr Vp
noncomputable def iZp(g:FA):FI:=λω=>(g ω).bind λds=>match ds with
 | [.lst a,.lst b]=>some (zAV a b)
 | _=>none
theorem q6I{X:Cx}{a b:vW}{g:FA}{p pos tpos:Pos}{elts:jw}{kx}(hg:PU)(hm:CW)(ha:XA X Bb g)(hs:aaK:=by rfl)(hs2:acu:=by rfl):
  XI X ko JB (iZp g):=by
 obtain⟨⟨t,h1,h2⟩,_⟩:=ha;refine⟨_,qje hg hm h1 hs hs2,kK⟩;obtain⟨vs,q,e⟩:=bnd e;refine h2 G0 H0 G ω σ H vs _ o q λus G1 H1 x1 y1=>?_
 match vs,e with
 | [.lst as,.lst bs],e=>
  cases e;obtain⟨v1,r1,rfl,z1,z2⟩:=y1;obtain⟨v2,r2,rfl,z3,z4⟩:=z2;cases (show r2=[]from z4);obtain⟨a1,ws1,rfl,f1,f2⟩:=z1;obtain⟨a2,ws2,rfl,f3,f4⟩:=z3;exact⟨a1,a2,ws1,ws2,rfl,U2,SqL.of (x1.gh _ _ f3),k _ G1 H1 x1 (qfM f1 f2 f3 f4)⟩
section
open PySem.Spec PyProof.Rows
variable{X:Cx}
end
end Hk
namespace Hk
open PySem L2 PyProof.Rows
noncomputable def zCT(k:Int):List Int->Option Nat
 | []=>none
 | a::r=>if a=k then some 0 else (zCT k r).map (·+1)
theorem qbj{k:Int}:∀{ns:af}{its:bu},Xf cN its->PySem.W.kf_ints its=true/\Yu k its=zCT k ns
 | [],its,h=>by cases h;exact dg
 | a::r,its,h=>by
  cases h with
  | cons h1 h2=>
   obtain⟨t,rfl⟩:=h1;obtain⟨e1,e2⟩:=qbj (k:=k) h2;refine⟨e1,?_⟩;unfold Yu zCT;rw[e2]
   by_cases z:a=k
   ·have:isInt k ade=true:=by simp[isInt,z]
    rw[this,iP];rfl
   ·have:isInt k ade=false:=by simp[isInt,z]
    rw[this,iw];cases zCT k r <;> rfl
section
variable{X:Cx}{pos:Pos}{o e:vW}{apos cpos:Pos}{i:Nat}{fd:FD}
end
end Hk
namespace Hk
open PySem L2
section
variable{X:Cx}{o c:vW}{body:List vm}{pos ipos npos:Pos}{i j:Nat}{fc:FT}{fb:FS}
end
noncomputable def dropW(o:L1)(ω:WSt):Option eX:=o.map λ_=>DF
noncomputable def zipI(o:BY):Option aY:=o.bind λds=>match ds with
 | [.lst a,.lst b]=>some (zAV a b)
 | _=>none
noncomputable def sortR(o:dU):Option R:=o.bind zCj
section
variable{ω:WSt}{fe:FE}{fd:FD}{fa:FA}{r:R}{ds as bs:List D}{i j:Nat}{f:FS}{ft:FT}{m:List D->List D}
theorem qbi:zCY fe ω=dropW NU ω:=rfl
theorem e_wd:dropW (some r) ω=some DF:=rfl
theorem qd5:iZp fa ω=zipI NV:=rfl
theorem e_wz:zipI (some [.lst as,.lst bs])=some (zAV as bs):=rfl
theorem qbA:zAl fd ω=sortR oQ:=rfl
end
theorem q7t{ns:af}(h:To):sortR (some Sk)=some nZ:=by
 show (intsOf gG).bind _=_;rw[q0J];exact vH h
end Hk
namespace L2
open PySem PySem.Spec PyProof.Rows
section
variable{κ:Type}[DecidableEq κ]
noncomputable def W0(kvs:iC)(k:κ):Option V:=(kvs.find? λkv=>decide Tq).map (·.2)
noncomputable def putK(kvs:iC)(k:κ)(v:V):List (κ×V) :=
 if kW=true then kvs.map (λkv=>if kv.1=k then (kv.1,v)else kv)else kvs++[(k,v)]
theorem q4F{p:κ×V}{r:iC}{k:κ}(e:p.1=k):W0 (p::r) k=some p.2:=by simp[W0,wE,e]
theorem q4i{p:κ×V}{r:iC}{k:κ}(e:¬p.1=k):W0 (p::r) k=W0 r k:=by simp[W0,wE,e]
theorem q5X(k:κ):∀kvs:List (κ×V),kW=(W0 kvs k).isSome
 | []=>rfl
 | p::r=>by
  rw[Zz]
  by_cases e:p.1=k
  ·simp only[q4F e,vT e,YL,Option.isSome_some]
  ·rw[q4i e,vX e,Z0];exact q5X k r
theorem q3P(kvs:iC)(k:κ)(v:V):(putK kvs k v).length<=kvs.length+1:=by
 unfold putK
 split
 ·rw[zB];omega
 ·rw[zD,zJ,wF];omega
theorem qf4{kvs:iC}{k:κ}(v:V)(h:W0 kvs k=none):putK kvs k v=kvs++[(k,v)]:=by
 unfold putK;rw[q5X,h];exact vJ (by decide)
theorem zBX.isSome_eq{o:jP}{u:BL}(r:zBX o u):o.isSome=u.isSome:=by
 cases o with
 | none=>cases u with
  | none=>rfl
  | some _=>exact(show False from r).elim
 | some _=>cases u with
  | none=>exact(show False from r).elim
  | some _=>rfl
theorem zBX.getD{o:jP}{u:BL}{d:V}{d':vB}(r:zBX o u)(rd:RelV d d'):RelV (o.getD d) (u.getD d'):=by
 cases o with
 | none=>cases u with
  | none=>exact rd
  | some _=>exact(show False from r).elim
 | some _=>cases u with
  | none=>exact(show False from r).elim
  | some _=>exact r
theorem KV.val{kvs:iC}{vs:oU}(r:BZ)(k:κ):zBX Oi (sP vs k):=by
 unfold KV at r
 induction r with
 | nil=>exact True.intro
 | @cons p q ps qs h t ih=>
  obtain⟨h1,h2⟩:=h
  by_cases e:p.1=k
  ·have e':q.1=k:=h1.symm.trans e
   have b:sP acJ k=some q.2:=by simp[sP,wE,e']
   rw[q4F e,b];exact h2
  ·have e':¬q.1=k:=λz=>e J1
   have b:sP acJ k=sP qs k:=by simp[sP,wE,e']
   rw[q4i e,b];exact ih
theorem KV.any{kvs:iC}{vs:oU}(r:BZ)(k:κ):kW=vs.any λkv=>decide Tq:=by
 unfold KV at r
 induction r with
 | nil=>rfl
 | cons h t ih=>rw[Zz,Zz,ih,h.1]
theorem KV.repl{kvs:iC}{vs:oU}(r:BZ)(k:κ){y:V}{u:vB}(ry:Ce):
  KV (kvs.map λkv=>if kv.1=k then (kv.1,y)else kv) (vs.map λkv=>if kv.1=k then (kv.1,u)else kv):=by
 unfold KV at r ⊢
 induction r with
 | nil=>exact .nil
 | @cons p q ps qs h t ih=>
  rw[zZ,zZ];refine .cons ?_ ih;obtain⟨h1,h2⟩:=h
  by_cases e:p.1=k
  ·rw[vH e,VA];exact⟨h1,ry⟩
  ·rw[vJ e,vJ (λz=>e J1)];exact⟨h1,h2⟩
theorem KV.put{kvs:iC}{vs:oU}(r:BZ)(k:κ){y:V}{u:vB}(ry:Ce):KV ad8 (stored vs k u):=by
 unfold putK stored;rw[r.any k]
 by_cases e:(vs.any λkv=>decide Tq)=true
 ·rw[vH e,vH e];exact r.repl k ry
 ·rw[vJ e,vJ e];exact Paired.snoc r ⟨rfl,ry⟩
theorem KV.keys{kvs:iC}{vs:oU}(r:BZ):kvs.map (·.1)=vs.map (·.1):=by
 unfold KV at r
 induction r with
 | nil=>rfl
 | cons h t ih=>rw[zZ,zZ,ih,h.1]
theorem KV.length{kvs:iC}{vs:oU}(r:BZ):kvs.length=vs.length:=Paired.length r
end
theorem q4k{P:vU}{w:vY}{k:Key}{u:vB}(r:RelV VT u):(Xb P w).is k u=true:=by
 cases k with
 | inl i=>obtain⟨t,e⟩:=(show ∃t,u=Value.int i t from r);subst e;exact qaz P w i t
 | inr x=>obtain⟨t,e⟩:=(show ∃t,u=Value.str x t from r);subst e;exact qa8 P w x t
theorem q7U{P:vU}{w:vY}:∀{ks:PN}{us:bu},Xf Tr us->ItemsAre pQ ks us
 | [],_,r=>by rw[yr]at r;cases r;exact .nil
 | k::ks,_,r=>by
  rw[zZ]at r;cases r with
  | cons h t=>exact .cons (q4k h) (q7U t)
abbrev KT(H:Hp):List Rs->List jb->Prop:=sx λp q=>p.1=q.1/\H q.2.1=some U3/\RelV p.2 q.2.2
theorem KT.val{H:Hp}{kvs:kr}{xs:TY}(r:Nb)(k:PN):zBX Oi ((rD xs k).map (·.2)):=by
 induction r with
 | nil=>exact True.intro
 | @cons p q ps qs h t ih=>
  obtain⟨h1,_,h2⟩:=h
  by_cases e:p.1=k
  ·have e':q.1=k:=h1.symm.trans e
   have b:rD acJ k=some q.2:=by simp[rD,wE,e']
   rw[q4F e,b];exact h2
  ·have e':¬q.1=k:=λz=>e J1
   have b:rD acJ k=rD qs k:=by simp[rD,wE,e']
   rw[q4i e,b];exact ih
theorem KT.repl{H:Hp}{kvs:kr}{xs:TY}(r:Nb)(k:PN){y:V}{u:vB}(ry:Ce):
  KT H (kvs.map λkv=>if kv.1=k then (kv.1,y)else kv) (xs.map (putAt k u)):=by
 induction r with
 | nil=>exact .nil
 | @cons p q ps qs h t ih=>
  rw[zZ,zZ];refine .cons ?_ ih;obtain⟨h1,h2,h3⟩:=h;unfold putAt
  by_cases e:p.1=k
  ·rw[vH e,VA];exact⟨h1,h2,ry⟩
  ·rw[vJ e,vJ (λz=>e J1)];exact⟨h1,h2,h3⟩
theorem KT.put{H:Hp}{kvs:kr}{xs:TY}(r:Nb)(k:PN){b:vF}{y:V}{u:vB}(hb:H b=some Kk)(ry:Ce):
  KT H ad8 (storedH xs k b u):=by
 have e:kW=(rD xs k).isSome:=by
  rw[q5X,(r.val k).isSome_eq,YM]
 unfold putK storedH;rw[e]
 by_cases q:(rD xs k).isSome=true
 ·rw[vH q,vH q];exact r.repl k ry
 ·rw[vJ q,vJ q];exact Paired.snoc r ⟨rfl,hb,ry⟩
theorem KT.keeps{H H':Hp}{kvs:kr}{xs:TY}(r:Nb)(ht:∀b ys,H b=some adx->H' b=some adx):KT H' kvs xs :=
 Paired.mapP r λ_ _ z=>Nm
section
variable{P:vU}{w:vY}{H:Hp}{h:vk}{a:vF}
theorem qh7{u:HO}(ok:jH)(e:Rd H a u):Xg P w H h a u:=e.ok ok
theorem q4o{kvs:eV}(ok:jH)(e:Rd H a cj):kvs.length<=sizeLine/\Cz=false/\∃vs,KV kvs vs/\h.DictOf pQ a vs :=
 show Xg P w H h a cj from qh7 ok e
theorem qcl{kvs:eV}(ok:jH)(e:Nd):kvs.length<=sizeLine/\Cz=false/\∃vs,KV kvs vs/\h.DictOf pQ a vs:=q4o ok (.inl e)
theorem q5l{ks:PN}(ok:jH)(e:H a=some (.tup Tr)):(tY pQ).is h ks a:=by
 obtain⟨_,its,r,o,h1,h2,n,h3⟩:=(show Xg P w H h a (.tup Tr)from ok a _ e);exact⟨o,its.toArray,n,h1,h2,h3,by simpa using q7U r⟩
theorem q5I{kvs:kr}(ok:jH)(e:Rd H a BC):kvs.length<=sizeLine/\Cz=false /\
  ∃xs,KT H kvs xs/\h.DictOfH (tY pQ) a xs:=by
 obtain⟨z,y,xs,r,o,es,ep,h1,h2,h3,h4,h5⟩:=(show Xg P w H h a BC from qh7 ok e);refine⟨z,y,xs,r,o,es,ep,h1,h2,h3,h4,λx hx=>?_,h5⟩;have all:∀{l:kr}{m:TY},KT H l m->∀x∈m,(tY pQ).is h x.1 x.2.1:=by
  intro l m q
  induction q with
  | nil=>intro x hx;exact nomatch hx
  | @cons p q ps qs hq t ih=>
   intro x hx;rcases zG.mp hx with e|hx
   ·subst e
    exact q5l ok (by rw[<- hq.1];exact hq.2.1)
   ·exact ih x hx
 exact all r x hx
theorem qk1{kvs:kr}(ok:jH)(e:H a=some BC):kvs.length<=sizeLine/\Cz=false /\
  ∃xs,KT H kvs xs/\h.DictOfH (tY pQ) a xs:=q5I ok (.inl e)
end
def zAU(H:Hp)(a:vF)(y:V)(r:jP):Prop :=
 (∃kvs k,Rd H a cj/\y=kV k/\r=W0 kvs k)\/∃kvs k b,Rd H a BC/\y=.ref b/\H b=some Kk/\r=W0 kvs k
def zCu(H:Hp)(a:vF)(y v:V)(H':Hp):Prop :=
 (∃kvs k,H a=some cj/\y=kV k/\kvs.length<sizeLine/\H'=upd H a (.dK NK)) \/
 ∃kvs k b,H a=some BC/\y=.ref b/\H b=some Kk/\kvs.length<sizeLine/\H'=upd H a (.dT NK)
theorem zAU.k{H:Hp}{a:vF}{kvs:eV}{k:Key}(e:Nd):zAU H a VT Oi:=.inl ⟨kvs,k,.inl e,rfl,rfl⟩
theorem zCu.k{H:Hp}{a:vF}{kvs:eV}{k:Key}{v:V}(e:Nd)(hl:aaU):zCu H a VT v (upd H a (.dK NK)):=.inl ⟨kvs,k,e,rfl,hl,rfl⟩
section
variable{X:Cx}{pins:List (vF×Obj)}{σ:St}{H:Hp}{s:vC}{a:vF}{y v:V}{u r:vB}{o:Option V}{A:vg}{E:vB->vC->Prop}
theorem Inv.big(I:au):uP<s.heap.objs.size:=by
 have h:vZ<s.heap.objs.size:=(I.mod.glob.keeps I.bk).lt;exact YG (by decide) h
theorem qez{Q:aQ}(hu:Lq)(I:au)(g:zAU H a y lO)(ry:Ce)(h:∀w' s',Inv X pins σ H s'->RelV v w'->Q w' s'):
  vQ aq A (tM dH u) Q E s:=by
 rcases g with⟨kvs,k,e,ey,l⟩|⟨kvs,k,b,e,ey,eb,l⟩
 ·subst ey
  obtain⟨z,hd,vs,rel,dd⟩:=q4o I.hok e;obtain⟨w',hw,rw'⟩:=zBX.some_of (v:=v) (o:=sP vs k) (by rw[l];exact rel.val k);exact wpAny_getItem_of NH dd.mapOf hw (h w' _ jG rw')
 ·subst ey
  cases (show u=Value.ref b from ry);obtain⟨z,hd,xs,rel,dd⟩:=q5I I.hok e;obtain⟨w',hw,rw'⟩:=zBX.some_of (v:=v) (o:=(rD xs k).map (·.2)) (by rw[l];exact rel.val k);obtain⟨p,hp,hp2⟩:=wX.mp hw;refine wpAny_getItem_heap (uy hu) GZ dd hp ?_;rw[hp2];exact h w' _ jG rw'
theorem qi0{Q:aQ}(hu:Lq)(I:au)(g:Vq)(ry:Ce)(h:∀s',Inv X pins σ H s'->Q (.bool (!o.isSome)) s'):
  vQ aq A (uW .NotIn u dH) Q E s:=by
 rcases g with⟨kvs,k,e,ey,l⟩|⟨kvs,k,b,e,ey,eb,l⟩
 ·subst ey
  obtain⟨z,hd,vs,rel,dd⟩:=q4o I.hok e;refine wpAny_notIn_of NH hd dd.mapOf ?_;rw[<- (rel.val k).isSome_eq,<- l];exact h _ jG
 ·subst ey
  cases (show u=Value.ref b from ry);obtain⟨z,hd,xs,rel,dd⟩:=q5I I.hok e;refine wpAny_notIn_heap (uy hu) GZ hd dd ?_;have q:=(rel.val k).isSome_eq;rw[YM]at q;rw[<- q,<- l];exact h _ jG
theorem q5J{h':vk}{t':Nat}{ob:HO}(I:au)(mu:Mut (H a))(hs:xu a s.heap h')(he:∃q,h'.get? a=some q)(new:Xg X.prog X.w (upd H a ob) h' a ob):
  Inv X pins σ (upd H a ob) { s with heap:=h',toks:=t' } :=
 I.write (x:=a) (e:=a) mu bC (λb q hb z=>(hs.2 b hb).trans z) he new
theorem q90{P:vU}{w:vY}{H':Hp}{h':vk}{kvs:eV}{vs:HG}(z:kvs.length<=sizeLine)(hd:Cz=false)(rel:BZ)(dd:h'.DictOf pQ a vs):
  Xg P w H' h' a cj:=⟨z,hd,vs,rel,dd⟩
theorem qeT{H':Hp}{Q:ro}(hu:Lq)(I:au)(g:zCu H a y v H')(ry:Ce)(rv:RelV v r)(h:∀s',Inv X pins σ H' s'->Q () s'):
  vQ aq A (setItem dH u r) Q E s:=by
 rcases g with⟨kvs,k,e,ey,l,eH⟩|⟨kvs,k,b,e,ey,eb,l,eH⟩
 ·subst ey eH
  obtain⟨z,hd,vs,rel,dd⟩:=qcl I.hok e;have hz:vs.length<=sizeLine:=by rw[<- rel.length];exact z
  have hl:(putK kvs k v).length<=sizeLine:=by have:=q3P kvs k v;omega
  refine wpAny_setItem_pairs (hsz:=hz) NH dd λh' dd' hs=>h _ ?_;have he:∃q,h'.get? a=some q:=let ⟨q,_,_,hq,_⟩:=dd';OU
  exact q5J I (by rw[e];exact True.intro) hs he (q90 hl hd (rel.put k rv) dd')
 ·subst ey eH
  cases (show u=Value.ref b from ry);obtain⟨z,hd,xs,rel,dd⟩:=qk1 I.hok e;have hz:xs.length<=sizeLine:=by rw[<- Paired.length rel];exact z
  have hl:(putK kvs k v).length<=sizeLine:=by have:=q3P kvs k v;omega
  refine wpAny_setItem_heap (hsz:=hz) (uy hu) GZ dd λh' dd' hs=>h _ ?_;obtain⟨q,es,ep,hq,h2,h3,h4,_,h5⟩:=dd';refine q5J I (by rw[e];exact True.intro) hs OU ⟨hl,hd,_,(rel.put k eb rv).keeps λc ys ec=>?_,q,es,ep,hq,h2,h3,h4,h5⟩;rw[qd (qk8 ec e (λz=>nomatch z))];exact ec
end
section
variable{X:Cx}{pins:List (vF×Obj)}{σ:St}{H:Hp}{s:vC}{a:vF}{kvs:List (Key×V)}{k:Key}{u:vB}{A:vg}{E:vB->vC->Prop}
end
def zCx(i:vW):Prop:=∀ov iv,subscripted i false ov iv=operate [ov,iv] (tM ov iv)
theorem qhq{prog:vU}{w:vY}{A:vg}{E:aQ}{s:vC}{env:Env}{value slice:vW}{pos:Pos}{T id:String}{Q:aQ}(hl:u9 BA "__getitem__" = pure (some jW))(hs:zCx slice)(h:vQ ap A (eval value env) (λo s₁=>vQ ap A (eval slice env) (λi s₂=>s₂.TypeIs o T/\vQ ap A (tM o i) Q E s₂) E s₁) E s):
  vQ ap A (eval (.Subscript value slice pos) env) Q E s:=by
 refine Subscript_ (v9 h (λo s₁ h₁=>v9 h₁ (λi s₂ h₂=>?_) λ_ _ x=>x) λ_ _ x=>x);obtain⟨hT,h₂⟩:=h₂;unfold sT;refine vA ?_;rw[getitemInPython_of_ne hT.not_modules];refine vA (ui hT hl ?_);have fin:vQ ap A (subscripted slice false o i) (λr s₃=>vQ ap A (letTemporaryGo value o r >>= λ_=>pure r) Q E s₃) E s₂:=by
  rw[hs o i];exact wpAny_operating (v9 h₂ (λr s₃ h₃=>vA (wpAny_letTemporaryGo (vG h₃))) λ_ _ x=>x)
 first
  | exact vG (vA fin)
  | exact vA (vG (vA fin))
  | exact vA fin
theorem qac{X:Cx}{pins:aD}{σ:St}{H:Hp}{s:vC}{a:vF}{y:V}{o:jP}(I:au)(g:Vq):s.TypeIs dH "dict" := by
 rcases g with⟨kvs,k,e,_,_⟩|⟨kvs,k,b,e,_,_,_⟩
 ·obtain⟨_,_,vs,_,dd⟩:=q4o I.hok e
  exact dd.typeIs
 ·obtain⟨_,_,xs,_,dd⟩:=q5I I.hok e
  exact dd.typeIs
noncomputable def zC8(td ty:TE):TE:=λσ H Q=>td σ H λx H1=>ty σ H1 λy H2=>∃a v,x=.ref a/\zAU H2 a y lO/\Q v H2
noncomputable def tDIn(ty td:TE):TE:=λσ H Q=>ty σ H λy H1=>td σ H1 λx H2=>∃a o,x=.ref a/\zAU H2 a y o/\Q (.bl o.isSome) H2
noncomputable def zBh(ty td:TE):TE:=λσ H Q=>ty σ H λy H1=>td σ H1 λx H2=>∃a o,x=.ref a/\zAU H2 a y o/\Q (.bl (!o.isSome)) H2
noncomputable def sDPut(td ty tv:TE):TS:=λD σ H=>tv σ H λv H1=>td σ H1 λx H2=>ty σ H2 λy H3=>∃a H4,x=.ref a/\zCu H3 a y v H4/\D.nx σ H4
section
variable{X:Cx}{o i e value:vW}{pos pos' tpos:Pos}{td ty tv:TE}
theorem q2X(hu:Hv)(ho:MH)(hi:PE X i ty)(hs:zCx i):PE X (.Subscript o i pos) (zC8 td ty):=by
 intro pins s σ H Q I h;refine qhq PySem.F.slot_dict_getitem.lookup hs (thn l6 λu s1 ⟨x,H1,I1,rx,q1⟩=>thn (hi pins s1 σ H1 _ I1 q1) λiv s2 ⟨y,H2,I2,ry,a,v,ex,g,q2⟩=>?_);subst ex;obtain rfl:u=Value.ref a:=rx;exact⟨qac I2 g,qez hu I2 g ry λw' s3 I3 rw'=>⟨v,H2,I3,rw',q2⟩⟩
theorem qeA(hu:Hv)(hi:PE X i ty)(ho:MH):PC X .NotIn i o (zBh ty td):=by
 intro pins s σ H Q I h;refine thn DX λiv s1 ⟨y,H1,I1,ry,q1⟩=>thn NP λu s2 ⟨x,H2,I2,rx,a,ov,ex,g,q2⟩=>?_;subst ex;obtain rfl:u=Value.ref a:=rx;exact qi0 hu I2 g ry λs3 I3=>⟨.bl (!ov.isSome),H2,I3,rfl,q2⟩
theorem q7i(hu:Hv)(ho:MH)(hi:PE X i ty)(hv:PE X value tv)(hs:uC value (some U7) pos.line X.env=pure false):
  PS X (.Assign [U7] value pos) (sDPut td ty tv):=by
 intro pins s σ H D I h;refine wpAny_Assign_Subscript (thn (hv pins s σ H _ I h) λr s1 ⟨v,H1,I1,rv,q1⟩=>thn NP λu s2 ⟨x,H2,I2,rx,q2⟩=>thn (hi pins s2 σ H2 _ I2 q2) λiv s3 ⟨y,H3,I3,ry,a,H4,ex,g,q3⟩=>?_) hs;subst ex;obtain rfl:u=Value.ref a:=rx;exact qeT hu I3 g ry rv λs4 I4=>⟨σ,H4,I4,q3⟩
end
theorem q8R{P:vU}{w:vY}{H:Hp}(h:vk)(hb:uP<h.objs.size):Xg P w H (h.push { cls:=.type "dict", data:=.dict #[] }) h.objs.size KJ :=
 ⟨pB,beq_eq_false_iff_ne.mpr (Ne.symm (zy hb)),[],.nil,Heap.DictOf.new h⟩
noncomputable def tDNewK:TE:=λ_ H Q=>∀p,H p=none->Q aO iS
section
variable{X:Cx}{pos:Pos}
theorem q4y:PE X (.Dict [] [] pos) tDNewK:=λpins s σ H Q I h=>
 wpAny_Dict_empty ⟨aL,_,I.laid (a:=s.heap.objs.size) (o:=.dK []) (t':=s.toks) JK bX VL,rfl,h _ nW⟩
end
def zBq:List (TE×TE)->St->Hp->Sj->Prop
 | [],_,H,Q=>Q [] H
 | (tk,tv)::r,σ,H,Q=>tk σ H λx H1=>tv σ H1 λy H2=>zBq r σ H2 λps H3=>Q ((x,y)::ps) H3
abbrev VV:List (V×V)->List (vB×vB)->Prop:=sx λp q=>RelV p.1 q.1/\RelV p.2 q.2
def PPs(X:Cx)(pos:Pos)(keys:List EY)(values:jw)(trs:Jy):Prop :=
 ∀(pins:aD)(s:vC)(σ:St)(H:Hp)(Q:Sj),Inv X pins σ H s->zBq trs σ H Q ->
  vQ aq X.A (evalPairs (pairTrees keys values X.env pos)) (λvs s'=>∃ps H',Inv X pins σ H' s'/\VV ps vs/\Q ps H') X.xe s
theorem qhT{X:Cx}{pos:Pos}:PPs X pos [] [] []:=λpins s σ H Q I h=>pairTrees_nil_walk Is
theorem qfO{X:Cx}{pos:Pos}{k v:vW}{ks:List EY}{vs:jw}{tk tv:TE}{trs:Jy}(hk:PE X k tk)(hv:PE X v tv)(hr:PPs X pos ks vs trs):
  PPs X pos (some k::ks) (v::vs) ((tk,tv)::trs):=λpins s σ H Q I h=>
 pairTrees_cons_walk (thn (hk pins s σ H _ I h) λu s1 ⟨x,H1,I1,rx,q1⟩=>thn (hv pins s1 σ H1 _ I1 q1) λw2 s2 ⟨y,H2,I2,ry,q2⟩=>
  thn (hr pins s2 σ H2 _ I2 q2) λws s3 ⟨ps,H3,I3,rel,q3⟩=>⟨(x,y)::ps,H3,I3,.cons ⟨rx,ry⟩ rel,q3⟩)
noncomputable def zAB(kvs more:eV):List T7:=more.foldl (λacc kv=>putK acc kv.1 kv.2) kvs
theorem KV.merge:∀{more:eV}{rs:HG}{kvs:eV}{vs:HG},KV more rs->KV kvs vs->KV (zAB kvs more) (merged vs rs):=by
 intro more rs kvs vs r;unfold KV at r
 induction r generalizing kvs vs with
 | nil=>intro q;exact q
 | @cons p q ps qs h t ih=>
  intro r0;have e:KV IF (stored vs q.1 q.2):=by
   have:=r0.put p.1 h.2;rw[<- h.1];exact this
  exact ih e
theorem q4P:∀(more kvs:eV),(zAB kvs more).length<=kvs.length+more.length
 | [],kvs=>by show kvs.length<=kvs.length+0;omega
 | p::r,kvs=>by
  have h1:=q4P r IF;have h2:=q3P kvs p.1 p.2;show (zAB IF r).length<=_;rw[zJ];omega
theorem q6Y{P:vU}{w:vY}:∀{kvs:eV}{ws:List (vB×vB)},VV (kvs.map λkv=>ael) ws->∃rs,Carries pQ ws rs/\KV kvs rs
 | [],_,r=>by rw[yr]at r;cases r;exact⟨[],True.intro,.nil⟩
 | p::kvs,_,r=>by
  rw[zZ]at r;cases r with
  | @cons a b as bs h t=>
   obtain⟨rs,c,q⟩:=q6Y (P:=P) (w:=w) t;obtain⟨b1,b2⟩:=b;exact⟨(p.1,b2)::rs,⟨q4k h.1,rfl,c⟩,.cons ⟨rfl,h.2⟩ q⟩
noncomputable def tDisp(trs:Jy):TE:=λσ H Q=>∀p,H p=none->zBq trs σ iS λps H2=>H2 p=some KJ/\∃kvs:List T7,ps=kvs.map (λkv=>ael)/\kvs.length<=15/\Q aO (upd H2 p (.dK (zAB [] kvs)))
theorem qhz{X:Cx}{pos:Pos}{keys:List EY}{values:jw}{trs:Jy}(h:PPs X pos keys values trs)(hall:keys.all (·.isSome)=true)(hl:keys.length=values.length)(h0:keys≠[])(h15:keys.length<=15):PE X (.Dict keys values pos) (tDisp trs):=by
 intro pins s σ H Q I q;have hn:=I.hok.fresh (zL s.heap.objs.size);have I1:=I.laid (a:=s.heap.objs.size) (o:=.dK []) (h':=s.heap.push { cls:=.type "dict", data:=.dict #[] }) (t':=s.toks) JK bX VL;refine wpAny_Dict_walk (knd:=Xb X.prog X.w) hall hl h0 h15 (thn (h pins _ σ _ _ I1 (q _ hn)) λws s2 Z_=>?_);obtain⟨ps,H2,I2,rel,e,kvs,ep,lk,q2⟩:=Z_;subst ep;obtain⟨rs,c,rk⟩:=q6Y (P:=X.prog) (w:=X.w) rel;obtain⟨z,hd,vs0,r0,dd⟩:=qcl I2.hok e;cases r0;refine⟨rs,c,dd,λh' dd' hs=>⟨aL,_,?_,rfl,q2⟩⟩;have hz:(zAB [] kvs).length<=sizeLine:=by
  have h1:=q4P kvs [];rw[wF]at h1;rw[vh];omega
 have he:∃q,h'.get? s.heap.objs.size=some q:=let ⟨q,_,_,hq,_⟩:=dd';OU
 exact q5J I2 (by rw[e];exact True.intro) hs he (q90 hz hd (rk.merge .nil) dd')
structure M2 (X:Cx) (o:vW) (m:Str) (apos:Pos) (e f:vW) (cpos:Pos):Prop where
 base:uU o m X.env (eval o X.env)=eval o X.env
 few:((vo cpos (vK [e,f] X.env)).all (λx=>!x.1)&&(uO cpos (uD [] X.env)).all (λx=>x.1.isSome)
  && decide (([e,f]:List vW).length+([]:List uN).length+(if ([]:List uN).isEmpty then 0 else 1)<30))=true
 line:(apos.endLine==cpos.line)=true
 trees:vo cpos (vK [e,f] X.env)=[(false,eval e X.env),(false,eval f X.env)]
def IsD(H:Hp)(a:vF):Prop:=(∃kvs,Rd H a cj)\/∃kvs,Rd H a BC
theorem qdM{X:Cx}{pins:aD}{σ:St}{H:Hp}{s:vC}{a:vF}(I:au)(d:IsD H a):
  s.TypeIs dH "dict" /\ (∀b,Value.ref a=.ref b->∃ob,s.heap.get? b=some ob/\ob.dict=none)/\Cz=false:=by
 rcases d with⟨kvs,e⟩|⟨kvs,e⟩
 ·obtain⟨_,hd,vs,_,dd⟩:=q4o I.hok e
  refine No;cases q;obtain⟨ob,_,_,h1,h2,_⟩:=dd;exact abj
 ·obtain⟨_,hd,xs,_,dd⟩:=q5I I.hok e
  refine No;cases q;obtain⟨ob,_,_,h1,h2,_⟩:=dd;exact abj
section
variable{X:Cx}{pins:List (vF×Obj)}{σ:St}{H:Hp}{s:vC}{a:vF}{y d:V}{u r:vB}{o:Option V}{A:vg}{E:vB->vC->Prop}
theorem qiI{Q:aQ}(hu:Lq)(I:au)(g:Vq)(ry:Ce)(rd:RelV d r)(h:∀w' s',Inv X pins σ H s'->RelV (o.getD d) w'->Q w' s'):
  vQ aq A (call (.builtin "dict.get") [dH,u,r]) Q E s:=by
 rcases g with⟨kvs,k,e,ey,l⟩|⟨kvs,k,b,e,ey,eb,l⟩
 ·subst ey
  obtain⟨z,hd,vs,rel,dd⟩:=q4o I.hok e;refine sr PySem.F.slot_dict_get dd.typeIs PySem.F.entry_dict_get KG (meets_dict_get_default oD a NH hd r) ⟨_,dd.mapOf,h _ _ jG ?_⟩;rw[l];exact(rel.val k).getD rd
 ·subst ey
  cases (show u=Value.ref b from ry);obtain⟨z,hd,xs,rel,dd⟩:=q5I I.hok e;refine sr PySem.F.slot_dict_get dd.typeIs PySem.F.entry_dict_get KG (meetsH_dict_get_default (tY oD) a b hd r) ⟨uy hu,k,xs,GZ,dd,h _ _ jG ?_⟩;rw[l];exact(rel.val k).getD rd
end
noncomputable def zBf(td ty tx:TE):TE:=λσ H Q=>td σ H λx H1=>∃a,x=.ref a/\IsD H1 a/\ty σ H1 λy H2=>tx σ H2 λz H3=>∃o,zAU H3 a y o/\Q (o.getD z) H3
section
variable{X:Cx}{o e f:vW}{apos cpos:Pos}{td ty tx:TE}
theorem q9H(hu:Hv)(ho:MH)(he:PE X e ty)(hf:PE X f tx)(m:M2 X o "get" apos e f cpos):PE X (.Call (.Attribute o "get" apos) [e,f] [] cpos) (zBf td ty tx):=by
 intro pins s σ H Q I h;refine wpAny_Call_method m.base m.few m.line PySem.F.plainAttrs_dict PySem.F.slot_dict_get PySem.F.type_dict_get QW;obtain⟨x,H1,I1,rx,a,ex,d,q1⟩:=Z_;subst ex;obtain rfl:u=Value.ref a:=rx;obtain⟨t1,t2,_⟩:=qdM I1 d;refine⟨t1,t2,?_⟩;rw[m.trees];refine Calls.callWith_builtin rfl (Calls.evalArgs_plain (Calls.spliced_cons (thn NR λiv s2 ⟨y,H2,I2,ry,q2⟩=>
  Calls.spliced_cons (thn NQ λfv s3 ⟨z,H3,I3,rz,ov,g,q3⟩=>Calls.spliced_nil ?_))))
 exact qiI hu I3 g ry rz λw' s4 I4 rw'=>⟨_,H3,I4,rw',q3⟩
end
section
variable{X:Cx}{pins:List (vF×Obj)}{σ:St}{H:Hp}{s:vC}{a:vF}{kvs:List (Key×V)}{A:vg}{E:vB->vC->Prop}
end
section
variable{X:Cx}{pins:List (vF×Obj)}{σ:St}{H:Hp}{s:vC}{a:vF}{y:V}{u:vB}{A:vg}{E:vB->vC->Prop}
end
end L2
namespace Hk
open PySem L2
noncomputable def Xc{α:Type}:List Int->List α->Int->Option α
 | k'::ks,x::xs,k=>if k'=k then some x else Xc ks xs k
 | _,_,_=>none
noncomputable def repA{α:Type}:List Int->List α->Int->α->List α
 | k'::ks,x::xs,k,y=>(if k'=k then y else x)::repA ks xs k y
 | _,xs,_,_=>xs
noncomputable def Wd(ks:af)(k:Int):List Int:=if k∈ks then ks else ks++[k]
noncomputable def putA{α:Type}(ks:af)(xs:bH)(k:Int)(y:α):List α:=if k∈ks then repA ks xs k y else xs++[y]
theorem q9L{α:Type}:∀(ks:af)(xs:bH)(k:Int)(y:α),(repA ks xs k y).length=xs.length
 | [],xs,_,_=>rfl
 | _::_,[],_,_=>rfl
 | k'::ks,x::xs,k,y=>by show (repA ks xs k y).length+1=xs.length+1;rw[q9L ks xs k y]
theorem qi1{α:Type}{ks:af}{xs:bH}(k:Int)(y:α)(h:ks.length=xs.length):(Wd ks k).length=(putA ks xs k y).length:=by
 unfold Wd putA
 by_cases z:k∈ks
 ·rw[iP,iP,q9L];exact h
 ·rw[iw,iw,zD,zD,h];rfl
theorem q0r:∀{ks:af}{vs:bg},ks.length=vs.length->∀k,W0 kU BK=Xc ks vs k
 | [],[],_,k=>rfl
 | [],_::_,h,_=>by simp at h
 | _::_,[],h,_=>by simp at h
 | k'::ks,v::vs,h,k=>by
  show W0 ((adh,v)::kvsOf ks vs) BK=if k'=k then some v else Xc ks vs k
  by_cases z:k'=k
  ·rw[iP,q4F (p:=(lM,v)) (by rw[z])]
  ·rw[iw,q4i (p:=(lM,v)) Cl]
   exact q0r ⇑h k
theorem q2u:∀{ks:af}{vs:bg},ks.length=vs.length->(kvsOf ks vs).length=ks.length
 | [],[],_=>rfl
 | [],_::_,h=>by simp at h
 | _::_,[],h=>by simp at h
 | k'::ks,v::vs,h=>by show (kvsOf ks vs).length+1=_;rw[q2u ⇑h];rfl
theorem q6B:∀{ks:af}{vs:bg},ks.length=vs.length->(kvsOf ks vs).map (·.1)=ks.map Ja
 | [],[],_=>rfl
 | [],_::_,h=>by simp at h
 | _::_,[],h=>by simp at h
 | k'::ks,v::vs,h=>by show lM::(kvsOf ks vs).map (·.1)=_;rw[q6B ⇑h];rfl
theorem q7O:∀{ks:af}{vs:bg},ks.length=vs.length->∀k,(kvsOf ks vs).any (λkv=>decide (kv.1=mv))=decide (k∈ks)
 | [],[],_,_=>rfl
 | [],_::_,h,_=>by simp at h
 | _::_,[],h,_=>by simp at h
 | k'::ks,v::vs,h,k=>by
  show (decide aek || (kvsOf ks vs).any _)=_;rw[q7O ⇑h k];have e:decide aek=decide (k'=k):=by
   by_cases z:k'=k
   ·rw[z];simp
   ·rw[vX z,vX Cl]
  rw[e];simp only[zG]
  by_cases z:k'=k
  ·simp[z]
  ·have:¬k=k':=λy=>z y.symm
   simp[z,this]
theorem q7X:∀{ks:af}{vs:bg},ks.length=vs.length->∀(k:Int)(v:V),(kvsOf ks vs).map (λkv=>if kv.1=mv then (kv.1,v)else kv)=kvsOf ks abI
 | [],[],_,_,_=>rfl
 | [],_::_,h,_,_=>by simp at h
 | _::_,[],h,_,_=>by simp at h
 | k'::ks,u::vs,h,k,v=>by
  show (if lM=Sum.inl k then (lM,v)else (adh,u))::(kvsOf ks vs).map _=(adh,if k'=k then v else u)::kvsOf ks abI;rw[q7X ⇑h k v]
  by_cases z:k'=k
  ·rw[vH (by rw[z]),iP]
  ·rw[vJ Cl,iw]
theorem q71:∀{ks:af}{vs:bg},ks.length=vs.length->∀(k:Int)(v:V),kvsOf ks vs++[(BK,v)]=kvsOf He (vs++[v])
 | [],[],_,_,_=>rfl
 | [],_::_,h,_,_=>by simp at h
 | _::_,[],h,_,_=>by simp at h
 | k'::ks,u::vs,h,k,v=>by show _::(kvsOf ks vs++[(BK,v)])=_;rw[q71 ⇑h k v];rfl
theorem q4X{ks:af}{vs:bg}(h:aaV)(k:Int)(v:V):putK kU BK v=kvsOf (Wd ks k) (putA ks vs k v):=by
 unfold putK Wd putA;rw[q7O h]
 by_cases z:k∈ks
 ·rw[vH (vT z),iP,iP];exact q7X h k v
 ·rw[vJ (by rw[vX z];decide),iw,iw];exact q71 h k v
section
variable{K:zC}{G:Hp}
theorem XB.val:∀{ks:af}{ds:aY}{vs:bg}{k:Int}{d:D},XB K G ds vs->Xc ks ds k=some d->∃v,Xc ks vs k=some v/\Rep K G d v
 | [],_,_,_,_,_,e=>by cases e
 | _::_,[],_,_,_,_,e=>by cases e
 | k'::ks,d'::ds,_,k,d,⟨v,r,h1,h2,h3⟩,e=>by
  subst h1;have e:(if k'=k then some d' else Xc ks ds k)=some d:=e;show ∃u,(if k'=k then some v else Xc ks r k)=some u/\_
  by_cases z:k'=k
  ·rw[iP]at e ⊢;cases e;exact⟨v,rfl,h2⟩
  ·rw[iw]at e ⊢;exact XB.val h3 e
theorem XB.isVal:∀{ks:af}{ds:aY}{vs:bg}(k:Int),XB K G ds vs->(Xc ks vs k).isSome=(Xc ks ds k).isSome
 | [],_,_,_,_=>rfl
 | _::_,[],_,_,h=>by cases (show _=[]from h);rfl
 | k'::ks,d'::ds,_,k,⟨v,r,h1,h2,h3⟩=>by
  subst h1;show (if k'=k then some v else Xc ks r k).isSome=(if k'=k then some d' else Xc ks ds k).isSome
  by_cases z:k'=k
  ·rw[iP,iP];rfl
  ·rw[iw,iw];exact XB.isVal k h3
theorem XB.repA:∀{ks:af}{ds:aY}{vs:bg}(k:Int){d:D}{v:V},XB K G ds vs->Rep K G d v->XB K G (Hk.repA ks ds k d) (Hk.repA ks vs k v)
 | [],_,_,_,_,_,h,_=>h
 | _::_,[],_,_,_,_,h,_=>by cases (show _=[]from h);rfl
 | k'::ks,d'::ds,_,k,d,v,⟨u,r,h1,h2,h3⟩,hv=>by
  subst h1;refine⟨_,_,rfl,?_,XB.repA k h3 hv⟩
  by_cases z:k'=k
  ·rw[iP,iP];exact hv
  ·rw[iw,iw];exact h2
theorem XB.putA{ks:af}{ds:aY}{vs:bg}(k:Int){d:D}{v:V}(h:oi)(hv:Rep K G d v):XB K G (Hk.putA ks ds k d) (Hk.putA ks vs k v):=by
 unfold Hk.putA
 by_cases z:k∈ks
 ·rw[iP,iP];exact h.repA k hv
 ·rw[iw,iw];exact h.app (XB.cons hv XB.nil)
end
noncomputable def W8:Option dh->Option By
 | some (some (.od ks ds))=>some Hd
 | some ↥(.dic ks ds)=>some Hd
 | _=>none
theorem qc1{H H':Hp}{p:vF}{u:HO}(e:LY)(h:Rd H p u):Rd H' p u:=by
 rcases h with h|⟨o,h⟩
 ·exact .inl US
 ·exact .inr ⟨o,US⟩
theorem qaP{H:Hp}{a:vF}{kvs:eV}{k:Key}(e:Rd H a cj):zAU H a VT Oi:=.inl ⟨kvs,k,e,rfl,rfl⟩
theorem Own.dic{K:zC}{G0:Hp}{H0:Fr}{G:Hp}{ω:WSt}{σ:St}{H:Hp}{i:Nat}{ks:af}{ds:aY}(o:bT)(h:W8 ω[i]?=some Hd):
  ∃p vs,σ[i]?=some bQ/\Rd H p KI/\ks.length=ds.length/\XB K G ds vs:=by
 unfold W8 at h
 split at h
 ·rename_i q
  cases h;obtain⟨p,vs,h1,h2,_,_,h5,h6,_⟩:=o.od i _ _ q;exact⟨p,vs,h1,.inl h2,h5,h6⟩
 ·rename_i q
  cases h;obtain⟨v,h1,p,vs,rfl,⟨ob,h2⟩,h3,h4⟩:=o.sh i _ q;exact⟨p,vs,h1,.inr ⟨ob,o.gh _ _ h2⟩,h3,h4⟩
 ·cases h
section
variable{X:Cx}{o k e:vW}{pos pos' dpos:Pos}{i:Nat}{fk fv:FD}
theorem hu1(hu:gM):X.A.units+1<ut:=∅
noncomputable def zBM(i:Nat):FS:=λω=>some aa8
theorem q5E{x:Str}(hN:X.N.Nodup)(hi:X.N[i]?=some x)(hx:fq)(hs:uC aax Qf pos.line X.env=pure false:=by rfl)(hf:aN:=by first|exact .inl rfl|exact .inr rfl|assumption):
  XS X (.Assign [bV] aax pos) (zBM i):=by
 refine⟨_,qL hN hi hx q4y hs hf,nB⟩;cases e;intro p hp;have o1:=ow.keep (Ext.hide ow.gh hp KJ);refine k G _ _ (o1.setOd (ks:=[]) (ds:=[]) (vs:=[]) qe acL (ow.ext.hh.free hp) rfl XB.nil λj ks' es hj z=>?_) dC;obtain⟨q,us,h1,h2,_⟩:=ow.od j ks' es hj;rw[h1]at z;cases z;rw[hp]at h2;cases h2
noncomputable def zBR(i:Nat)(fk fv:FD):FS:=λω=>(fv ω).bind λd=>(fk ω).bind λc=>match c,ω[i]? with
 | .int k,some (some (.od ks ds))=>if ks.length<1000000 then some jI else none
 | _,_=>none
theorem q47(hu:gM)(ho:mR)(hk:Sb)(hv:XD X e fv)(hs:uC e (some U6) pos.line X.env=pure false:=by rfl):XS X (.Assign [U6] e pos) (zBR i fk fv):=by
 obtain⟨tk,h1,h2⟩:=hk;obtain⟨tv,h3,h4⟩:=hv;refine⟨_,q7i (hu1 hu) ho h1 h3 hs,mY⟩;obtain⟨d,q1,e⟩:=bnd e;obtain⟨c,q2,e⟩:=bnd e;refine h4 G0 H0 G ω σ H d _ ow q1 λv G1 H1 x1 y1=>?_;cases c with
 | int k=>
  split at e
  ·rename_i _ _ _ k' ks ds ek q3
   cases ek
   by_cases z:ks.length<1000000
   ·rw[iP]at e
    cases e;have o1:=ow.keep x1;obtain⟨p,vs,r1,r2,r3,r4,r5,r6,r7⟩:=o1.od i ks ds q3;refine⟨aO,r1,h2 G0 H0 G1 ω σ H1 _ _ o1 q2 λu G2 H2 x2 y2=>?_⟩;cases (show u=.int k from y2);have o2:=o1.keep x2;have hl:ks.length=vs.length:=by rw[r5];exact r6.len
    refine⟨p,_,rfl,zCu.k (k:=Sum.inl k) adV (by rw[q2u hl,vh];omega),?_⟩;rw[q4X hl];exact kk G2 σ _ (o2.mutD q3 r1 adV (x2.new p r3 (by rw[r2];exact λz=>by cases z)) r4 (qi1 k d r5) ((r6.mono x2.gg).putA k Nw)) GQ
   ·rw[iw]at e;cases e
  ·cases e
 | _=>cases e
noncomputable def zAO(i:Nat)(fk:FD):FE:=λω=>(W8 ω[i]?).bind λp=>(fk ω).bind λc=>match c with
 | .int k=>(Xc p.1 p.2 k).map R.sh
 | _=>none
theorem q2f(hu:gM)(ho:mR)(hk:Sb)(hs:zCx k:=by intro _ _;rfl):XE X (.Subscript o k pos) (zAO i fk):=by
 obtain⟨tk,h1,h2⟩:=hk;refine⟨_,q2X (hu1 hu) ho h1 hs,Ks⟩;obtain⟨⟨ks,ds⟩,q1,e⟩:=bnd e;obtain⟨c,q2,e⟩:=bnd e;obtain⟨p,vs,r1,r2,r3,r4⟩:=ow.dic q1;refine⟨aO,r1,h2 G0 H0 G ω σ H c _ ow q2 λu G1 H1 x1 y1=>?_⟩;cases c with
 | int k=>
  cases (show u=.int k from y1);obtain⟨d,q3,e⟩:=mpd e;subst e;obtain⟨v,z1,z2⟩:=r4.val q3;have hl:ks.length=vs.length:=by rw[r3];exact r4.len
  have g:=qaP (k:=mv) ad7;rw[q0r hl,z1]at g;exact⟨p,v,rfl,g,kk v G1 H1 x1 (z2.mono x1.gg)⟩
 | _=>cases e
noncomputable def zB7(neg:Bool)(i:Nat)(fk:FD):FT:=λω=>(fk ω).bind λc=>(W8 ω[i]?).bind λp=>match c with
 | .int k=>some (if neg then !(Xc p.1 p.2 k).isSome else (Xc p.1 p.2 k).isSome)
 | _=>none
theorem qip{tk:TE}{neg:Bool}(h2:zAX X.K tk fk):zBA X.K (tB (if neg then zBh tk LU else L2.tDIn tk LU)) (zB7 neg i fk):=by
 intro G0 H0 G ω σ H b Q ow e kk;obtain⟨c,q2,e⟩:=bnd e;obtain⟨⟨ks,ds⟩,q1,e⟩:=bnd e;cases c with
 | int k=>
  have fin:∀(u:V)G1 H1,Ext G H G1 H1->u=.int k->∃p vs,σ[i]?=some bQ/\zAU H1 p u (Xc ks vs k)/\(Xc ks vs k).isSome=(Xc ks ds k).isSome:=λu G1 H1 x1 hu=>by
   subst hu;obtain⟨p,vs,r1,r2,r3,r4⟩:=ow.dic q1;have hl:ks.length=vs.length:=by rw[r3];exact r4.len
   have g:=qaP (k:=mv) ad7;rw[q0r hl]at g;exact⟨p,vs,r1,g,XB.isVal k r4⟩
  cases neg with
  | true=>
   refine h2 G0 H0 G ω σ H _ _ ow q2 λu G1 H1 x1 y1=>?_;obtain⟨p,vs,r1,g,hs⟩:=fin u G1 H1 x1 y1;refine Mb;cases e;rw[hs];exact kk G1 H1 x1
  | false=>
   refine h2 G0 H0 G ω σ H _ _ ow q2 λu G1 H1 x1 y1=>?_;obtain⟨p,vs,r1,g,hs⟩:=fin u G1 H1 x1 y1;refine Mb;cases e;rw[hs];exact kk G1 H1 x1
 | _=>cases e
theorem q5j(hu:gM)(hk:Sb)(ho:mR)(hb:uM .NotIn o=false:=by rfl):XT X (.Compare k [.NotIn] [o] pos) (zB7 true i fk):=by
 obtain⟨tk,h1,h2⟩:=hk;exact⟨_,qiR (qeA (hu1 hu) h1 ho) hb,qip (neg:=true) h2⟩
end
section
variable{X:Cx}{o k e:vW}{pos pos' dpos:Pos}{i:Nat}{fk fv:FD}
noncomputable def zBy(i:Nat)(fk fv:FD):FS:=λω=>(fk ω).bind λc=>(fv ω).bind λd=>match c with
 | .int k=>some oq
 | _=>none
theorem qfy{x:Str}(hN:X.N.Nodup)(hi:X.N[i]?=some x)(hx:fq)(hk:Sb)(hv:XD X e fv)(hs:uC Sm Qf pos.line X.env=pure false:=by rfl)(hf:aN:=by first|exact .inl rfl|exact .inr rfl|assumption):
  XS X (.Assign [bV] Sm pos) (zBy i fk fv):=by
 obtain⟨tk,h1,h2⟩:=hk;obtain⟨tv,h3,h4⟩:=hv;refine⟨_,qL hN hi hx (qhz (qfO h1 h3 qhT) rfl rfl (by simp) (by show 1<=15;decide)) hs hf,mY⟩;obtain⟨c,q1,e⟩:=bnd e;obtain⟨d,q2,e⟩:=bnd e;cases c with
 | int k=>
  cases e;intro p hp;have x0:=Ext.hide ow.gh hp KJ;have o1:=ow.keep x0;refine h2 G0 H0 G ω σ _ _ _ o1 q1 λu G1 H1 x1 y1=>?_;cases (show u=.int k from y1);have o2:=o1.keep x1;refine h4 G0 H0 G1 ω σ H1 d _ o2 q2 λv G2 H2 x2 y2=>?_;have o3:=o2.keep x2;have hp2:H2 p=some KJ:=x2.hh _ _ (x1.hh _ _ qe);have gp1:G1 p=none:=x1.new p acL (by rw[qe];exact λz=>by cases z);have gp2:G2 p=none:=x2.new p gp1 (by rw[x1.hh _ _ qe];exact λz=>by cases z);have h0p:H0 p=none:=ow.ext.hh.free hp;refine⟨hp2,[(BK,v)],rfl,by show 1<=15;decide,?_⟩;have em:zAB [] [(mv,v)]=kvsOf [k] [v]:=by
   show putK [] mv v=_;unfold putK;rw[vJ (by simp)];rfl
  rw[em];have ext4:Ext G0 H0.hp G2 JN:=⟨o3.ext.gg,Xe o3.ext.gh gp2 _,Xe o3.ext.hh h0p _,o3.ext.new⟩;have np:∀(j:Nat)ds',ω[j]?=some (some (.ow ds'))->∀l vs,σ[j]?=some DB->H2 l=some gL->l≠p:=λj ds' hj l vs _ h z=>by rw[z,hp2]at h;cases h
  have npd:∀(j:Nat)ks' es,ω[j]?=some GW->σ[j]?≠some bQ:=λj ks' es hj z=>by
   obtain⟨q,us,w1,w2,_⟩:=ow.od j ks' es hj;rw[w1]at z;cases z;rw[hp]at w2;cases w2
  have o4:Own X.K G0 H0 G2 ω σ JN:=by
   refine⟨ext4,o3.len,o3.sh,λj ds' hj=>?_,o3.nd,aco,o3.pw.upd (o3.pw.ne_ob λvs z=>by rw[hp2]at z;cases z)⟩
   ·obtain⟨l,vs,w1,w2,w3,w4,w5⟩:=o3.ow j ds' hj
    exact⟨l,vs,w1,by rw[qd (np j ds' hj l vs w1 w2)];exact w2,w3,w4,w5⟩
   ·obtain⟨q,us,w1,w2,w3,w4,w5,w6,w7⟩:=o3.od j ks' es hj
    have nq:q≠p:=λz=>npd j ks' es hj (by rw[<- z];exact w1);exact⟨q,us,w1,by rw[qd nq];exact w2,w3,w4,w5,w6,w7⟩
  exact kk G2 _ _ (o4.setOd (ks:=[k]) (ds:=[d]) (vs:=[v]) qe gp2 h0p rfl (XB.cons y2 XB.nil) npd) GQ
 | _=>cases e
end
section
open PySem.Spec PyProof.Rows PySem.W
theorem qaR:∀(vs:bu)(ns:af),vs.length=ns.length->(∀(j:Nat)v n,vs[j]?=some v->ns[j]?=some n->∃t,v=.int n t)->uI vs ns
 | [],[],_,_=>.nil
 | [],_::_,h,_=>by simp at h
 | _::_,[],h,_=>by simp at h
 | v::vs,n::ns,h,f=>by
  obtain⟨t,rfl⟩:=f 0 v n rfl rfl;exact .cons _ _ (qaR vs ns ⇑h λj a b e1 e2=>f (j+1) a b ⇑e1 ⇑e2)
variable{prog:vU}{w:vY}{A:vg}{E:vB->vC->Prop}{s:vC}
theorem qax{a:vF}{kvs:HG}{ns:af}{Q:aQ}(hh:db)(lo:Cz=false)(dd:s.heap.DictOf (Xb prog w) a kvs)(hk:kvs.map (·.1)=ns.map Ja)(h64:To)(h:∀(h1 h':vk)(tk:Nat)(vs:bu)(ys:af)(n:Nat),(∀b o,s.heap.get? b=some o->h1.get? b=some o)->(∀b o,h1.get? b=some o->h'.get? b=some o)->h'.get? h1.objs.size=some Cs->uI vs ys->ys.Perm ns->ys.Pairwise (· <= ·)->Q (.ref h1.objs.size) { s with heap:=h',toks:=tk }):
  vQ ap A aer Q E s:=by
 obtain⟨ep,hat⟩:=dd.dictAt;have hkl:kvs.length=ns.length:=by have:=uB wD hk;simpa using this
 refine Calls.call_function_entry sH tq tu (sq _) ?_;unfold Builtin.«sorted»;refine vA (m:=sW "sorted" 1 1 _) gr;refine vA (kdu_collect (A:=A.in1) (kdl_dict (knd:=Xb prog w) (kvs:=kvs) (ep:=ep) lo) hh hat (by rw[hkl];exact yI (yh h64) (by decide)) λh1 tk acc hk1 hacc=>?_);have y1:uI acc.toList ns:=by
  refine qaR _ _ (by rw[zO,hacc.1,hkl]) λj v n e1 e2=>?_;obtain⟨k,x,hx,hi⟩:=hacc.2 j v (by rw[<- zd];exact e1);have e3:(kvs.map (·.1))[j]?=some k:=by rw[zP,hx];rfl
  rw[hk,zP,e2]at e3;cases e3;rcases qH (k:=oG) hi with⟨i,t,e4,rfl⟩|⟨x,t,e4,_⟩
  ·cases e4;exact MU
  ·cases e4
 have hlen:acc.toList.length=ns.length:=IntsAre.length y1;refine vA (uu ?_ (yI (by rw[hlen];exact yh h64) (by decide)));generalize acc.toList=vs at y1 hlen;have hoL:(h1.push eM).get? h1.objs.size=some eM:=zU _ rfl;refine vA (vp (vt slot_list_sort ⟨_,hoL,rfl⟩ entry_list_sort (list_sort_tree hoL y1 (by rw[hlen];exact h64) λout ns' a1 a2 a3=>dv) (sI _)));obtain⟨n,hn⟩:=sortedHeap_at (vs:=vs) (out:=out) hoL;refine vG ⟨_,rfl,h h1 _ tk out.toList ns' n hk1 (λb o e1=>?_) ?_ a1 a2 a3⟩
 ·rw[sortedHeap_old (zy acq) (by rw[yo];exact yX acq)]
  exact zE _ e1
 ·rw[xy];exact hn
end
def rSortD:List V->Hp->VK->Prop:=λxs H Q=>∃p kvs ns,xs=TC/\Rd H p cj/\kvs.map (·.1)=ns.map Ja/\ns.length<64/\∀l,H l=none->Q cM GU
section
variable{X:Cx}{o:vW}{i:Nat}
theorem qcn(hc:cV):WM X gk rSortD:=by
 intro pins s σ H xs us Q I r h;obtain⟨p,kvs,ns,rfl,hp,hk,hz,q⟩:=h;obtain⟨u,rfl,rx⟩:=vals1 r;cases rx;obtain⟨_,lo,vs,rel,dd⟩:=q4o I.hok hp;refine qax jV lo dd (by rw[<- rel.keys];exact hk) hz λh1 h' tk us ys n k1 k2 g1 a1 a2 a3=>?_;have en:ys=XZ ns:=q0H a3 q0E IJ;subst en;have I1:Inv X pins σ H { s with heap:=h1,toks:=tk }:=I.kept k1;have hsl:(XZ ns).length<=sizeLine:=by rw[q59];exact yI (yh hz) (by decide)
 have I2:=I1.laid (a:=h1.objs.size) (o:=.lst ip) (t':=tk) (h':=h') k2 bX
  (show Xg X.prog X.w _ h' _ Uf from ⟨by rw[zB];exact hsl,us,n,q1B a1,g1⟩)
 exact⟨.ref _,_,I2,rfl,q _ pI⟩
noncomputable def zBr(i:Nat):FE:=λω=>(W8 ω[i]?).bind λp=>if p.1.length<64 then some Ow else none
theorem qeX{p q:Pos}(hc:cV)(hg:Dt)(hm:kZ)(ho:mR)(he:vK [o] X.env=(false,nR)::vK [] X.env:=by rfl)(hpl:(vo q ck).any (·.1)=false:=by rfl):XE X (.Call oK [o] [] q) (zBr i):=by
 refine⟨_,q2a (qcn hc) hg hm q2v (qj ho qq he) (by decide) (by decide) he hpl,KU⟩;obtain⟨⟨ks,ds⟩,q1,e⟩:=bnd e;obtain⟨p,vs,r1,r2,r3,r4⟩:=ow.dic q1
 by_cases hz:ks.length<64
 ·have e:(if ks.length<64 then some (R.fr HV)else none)=some r:=e
  rw[vH hz]at e;cases e;refine⟨aO,r1,p,_,ks,rfl,r2,q6B (by rw[r3];exact r4.len),hz,acn⟩;have x2:=Ext.hide ow.gh hl (.lst ((XZ ks).map V.int));exact k _ G _ x2 ⟨l,_,rfl,hl,ow.gh.free hl,qe,XB.ints _⟩
 ·have e:(if ks.length<64 then some (R.fr HV)else none)=some r:=e
  rw[vJ hz]at e;cases e
noncomputable def zCc(i:Nat):FM:=λω=>match ω[i]? with
 | some (some (.ow ds))=>(ds[ds.length-1]?).map λd=>GA
 | _=>none
theorem XB.dropLast{K:zC}{H:Hp}{ds:aY}{vs:bg}(h:BJ):XB K H ds.dropLast vs.dropLast:=by
 rw[Zm,Zm,h.len];exact h.take _
theorem qh8{apos cpos:Pos}(ho:mR)(hbase:uU o "pop" X.env nR=eval o X.env:=by rfl)(hline:iJ=true:=by rfl):
  XM X (.Call (.Attribute o "pop" apos) [] [] cpos) (zCc i):=by
 refine⟨_,q56 PySem.F.plainAttrs_list PySem.F.slot_list_pop PySem.F.type_list_pop q9z ho hbase hline,λG0 H0 G ω σ H d ω' Q ow e k=>?_⟩;unfold zCc at e
 split at e
 ·rename_i ds q2
  obtain⟨d1,hd,e⟩:=mpd e;cases e;obtain⟨l,vs,r1,r2,r3,r4,r5⟩:=ow.ow i ds q2;obtain⟨y,hy,ry⟩:=r5.get hd;refine⟨.ref l,r1,.inl SB,l,vs,y,rfl,rfl,r2,by rw[<- r5.len];exact hy,k y G _ (ow.mut q2 r1 r2 r3 r4 r5.dropLast) dC ry⟩
 ·cases e
end
noncomputable def Wx:List Int->List af->Int->Int->List af
 | k::ks,x::xs,a,b=>if k=a then SQ::xs else x::Wx ks xs a b
 | _,xs,_,_=>xs
theorem q3s:∀(ks:af)(xs:bP)(a b:Int),(Wx ks xs a b).length=xs.length
 | [],_,_,_=>rfl
 | _::_,[],_,_=>rfl
 | k::ks,x::xs,a,b=>by
  unfold Wx
  by_cases z:k=a
  ·rw[iP];rfl
  ·rw[iw,zJ,zJ,q3s ks xs a b]
structure Tab (G H0 H:Hp) (p:vF) (ks:List Int) (ls:List vF) (xss:List (List Int)):Prop where
 dict:H p=some (.dK (kvsOf ks (ls.map V.ref)))
 gp:G p=none
 hp:H0 p=none
 len:ks.length=ls.length
 len2:ls.length=xss.length
 lst:∀(j:Nat)l xs,ls[j]?=some l->xss[j]?=some xs->H l=some (.lst (xs.map V.int))
 gl:∀l∈ls,G l=none/\H0 l=none
 nd:ls.Nodup
theorem Tab.inn{G H0 H:Hp}{p:vF}{ks:af}{ls:cX}{xss:bP}(T:du){l:vF}(h:l∈ls):∃xs:List Int,H l=some gC:=by
 obtain⟨j,hj,rfl⟩:=zY.mp h;have hj2:j<xss.length:=by rw[<- T.len2];exact hj
 exact⟨xss[j],T.lst j _ _ B9 Gv⟩
theorem Tab.pl{G H0 H:Hp}{p:vF}{ks:af}{ls:cX}{xss:bP}(T:du):p∉ls:=λh=>by
 obtain⟨xs,e⟩:=T.inn h;rw[T.dict]at e;cases e
theorem Tab.keep{G G' H0 H H':Hp}{p:vF}{ks:af}{ls:cX}{xss:bP}(T:du)(x:AJ):Tab G' H0 H' p ks ls xss :=
 ⟨x.hh _ _ T.dict,x.new p T.gp (by rw[T.dict];exact λz=>by cases z),T.hp,T.len,T.len2,λj l xs h1 h2=>x.hh _ _ (T.lst j l xs h1 h2),λl h=>by
  obtain⟨xs,e⟩:=T.inn h;exact⟨x.new l (T.gl l h).1 (by rw[e];exact λz=>by cases z),(T.gl l h).2⟩,T.nd⟩
theorem qep:∀{ks:af}{ls:cX}{a:Int},ks.length=ls.length->a∈ks->∃(j:Nat) (l:vF),ks[j]?=some a/\ls[j]?=some l/\Xc ks ce a=some cM/\∀(xss:bP)(b:Int),xss.length=ls.length->∃xs,xss[j]?=some xs/\Wx ks xss a b=xss.set j (xs++[b])
 | [],_,_,_,h=>by simp at h
 | _::_,[],_,h,_=>by simp at h
 | k::ks,l::ls,a,h,ha=>by
  by_cases z:k=a
  ·refine⟨0,l,by rw[z];rfl,rfl,vH z,λxss b hx=>?_⟩
   cases xss with
   | nil=>simp at hx
   | cons x xs=>exact⟨x,rfl,iP⟩
  ·have ha':a∈ks:=(zG.mp ha).resolve_left λe=>z e.symm
   obtain⟨j,l',e1,e2,e3,e4⟩:=qep (ks:=ks) (ls:=ls) ⇑h ha';refine⟨j+1,l',e1,e2,?_,λxss b hx=>?_⟩
   ·show (if k=a then _ else _)=_
    rw[iw];exact e3
   ·cases xss with
    | nil=>simp at hx
    | cons x xs=>
     obtain⟨y,h1,h2⟩:=e4 xs b ⇑hx;refine⟨y,h1,?_⟩;show (if k=a then _ else x::Wx ks xs a b)=_;rw[iw,h2];rfl
theorem Tab.app{G H0 H:Hp}{p:vF}{ks:af}{ls:cX}{xss:bP}(T:du){a:Int}(b:Int)(ha:a∈ks):
  ∃(l:vF) (xs:af),l∈ls/\xs∈xss/\Xc ks ce a=some cM/\zAU H p cB DB/\H l=some gC/\Tab G H0 (upd H l (.lst ((xs++[b]).map V.int))) p ks ls EF:=by
 obtain⟨j,l,e1,e2,e3,e4⟩:=qep T.len ha;obtain⟨xs,e5,e6⟩:=e4 xss b T.len2.symm;have hl:l∈ls:=zg e2;have hlp:p≠l:=λz=>T.pl (z▸hl);have g:=zAU.k (k:=oH) T.dict;rw[q0r (by rw[zB];exact T.len),e3]at g;refine⟨l,xs,hl,zg e5,e3,g,abY,?_⟩;rw[e6];refine⟨by rw[qd hlp];exact T.dict,T.gp,T.hp,T.len,by rw[yi];exact T.len2,λi m ys h1 h2=>?_,T.gl,T.nd⟩;rcases qf h2 with⟨rfl,_,rfl⟩|⟨ne,h3⟩
 ·rw[e2]at h1
  cases h1;exact qe
 ·have hm:m≠l:=λz=>by
   subst z;obtain⟨i1,i2⟩:=zt.mp h1;obtain⟨j1,j2⟩:=zt.mp e2;exact ne JC
  rw[NG];exact T.lst i m ys h1 h3
theorem Own.free{K:zC}{G0:Hp}{H0:Fr}{G:Hp}{ω:WSt}{σ:St}{H:Hp}{q:vF}{ob:HO}(o:bT)(no:Qt)(hG:G q=none)(h0:H0 q=none):Own K G0 H0 G ω σ (upd H q ob) :=
 ⟨⟨o.ext.gg,Xe o.ext.gh hG _,Xe o.ext.hh h0 _,o.ext.new⟩,o.len,o.sh,KR,o.nd,pA,aag⟩
theorem Tab.put{G H0 H:Hp}{p:vF}{ks:af}{ls:cX}{xss:bP}(T:du){k:Int}{l:vF}(hk:k∉ks)(hl:H l=none)(sg:AF)(s0:XL H0 H)(hz:La):
  ∃H4,zCu QS p md cM H4/\H4=upd QS p (.dK (kvsOf He Sv))/\Tab G H0 H4 p He (ls++[l]) SO:=by
 have hpl:p≠l:=λz=>by rw[<- z,T.dict]at hl;cases hl
 have hlen:ks.length=(ls.map V.ref).length:=by rw[zB];exact T.len
 have e:putK Am BK cM=kvsOf He Sv:=by
  rw[q4X hlen];unfold Wd putA;rw[vJ hk,vJ hk,zW];rfl
 have d:=zCu.k (H:=upd H l iD) (a:=p) (kvs:=kvsOf ks ce) (k:=mv) (v:=.ref l) (by rw[qd hpl];exact T.dict) (by rw[q2u hlen,vh];omega);rw[e]at d;refine⟨_,d,rfl,qe,T.gp,T.hp,by rw[zD,zD,T.len];rfl,by rw[zD,zD,T.len2];rfl,λj m xs h1 h2=>?_,λm hm=>?_,?_⟩
 ·rcases zz j ls.length with z|z
  ·rw[ze z]at h1
   rw[ze (by rw[<- T.len2];exact z)]at h2;have e1:=T.lst j m xs h1 h2;have n1:m≠p:=λy=>T.pl (y▸zg h1);have n2:m≠l:=λy=>by rw[y,hl]at e1;cases e1
   rw[qd n1,qd n2];exact e1
  ·rw[zb z]at h1
   rw[zb (by rw[<- T.len2];exact z),<- T.len2]at h2;cases hj:j-ls.length with
   | zero=>
    rw[hj]at h1 h2;cases h1;cases h2;rw[qd (Ne.symm hpl)];exact qe
   | succ n=>rw[hj]at h1;cases h1
 ·rcases zK.mp hm with h|h
  ·exact T.gl m h
  ·cases zR.mp h;exact⟨sg.free hl,s0.free hl⟩
 ·rw[yl]
  refine⟨T.nd,by simp,λa ha b hb z=>?_⟩;cases zR.mp hb;obtain⟨xs,e1⟩:=T.inn ha;rw[z,hl]at e1;cases e1
noncomputable def pairsOf:List D->Option ae
 | []=>some []
 | .tup [.int a,.int b]::r=>(pairsOf r).map λl=>(a,b)::l
 | _=>none
noncomputable def Y4(e:bo):D:=.tup [Bi,PZ]
theorem q4g:∀{ds:aY}{es:ae},pairsOf ds=some es->ds=es.map Y4
 | [],_,h=>by cases h;rfl
 | d::r,es,h=>by
  unfold pairsOf at h
  split at h
  ·rename_i e;cases e
  ·rename_i e
   cases e;obtain⟨l,h1,h2⟩:=mpd h;subst h2;rw[q4g h1];rfl
  ·cases h
theorem q3W:∀es:List bo,pairsOf LN=some es
 | []=>rfl
 | e::r=>by show (pairsOf (r.map Y4)).map _=_;rw[q3W r];rfl
noncomputable def Xx(ks:af)(xss:bP)(e:bo):List af:=Wx ks (Wx ks xss e.1 e.2) e.2 e.1
noncomputable def nbT(ts:af)(es:ae):List af:=es.foldl Ro rT
noncomputable def nbM(a b:aY):Option D:=(intsOf a).bind λts=>(pairsOf b).bind λes=>if ts.Nodup/\(∀e∈es,e.1∈ts/\e.2∈ts)/\ts.length<=1000/\es.length<=1000 then some (.dic ts ((nbT ts es).map λxs=>.lst ig))else none
noncomputable def sNb:FS:=λω=>match ω with
 | [↥(.lst a),↥(.lst b),none,none,none]=>(nbM a b).map λd=>nY
 | _=>none
theorem zBQ{a b:D}{x:dU}:WG [↥a,↥b,none,none,x.map W.sh]:=by
 intro i w e
 match i,e with
 | 0,e=>cases e;exact bD
 | 1,e=>cases e;exact bD
 | 2,e=>cases e
 | 3,e=>cases e
 | 4,e=>
  cases x with
  | none=>cases e
  | some d=>cases e;exact Vh
 | i+5,e=>simp at e
theorem Own.other{K:zC}{G0:Hp}{H0:Fr}{G:Hp}{ω:WSt}{σ:St}{H:Hp}{i:Nat}{v:jP}(o:bT)(no:Qt)(hi:∀w,ω[i]?≠some (some w)):Own K G0 H0 G ω (σ.set i v) H :=
 ⟨o.ext,by rw[yi];exact o.len,λj d h=>by
  obtain⟨u,h1,h2⟩:=o.sh j d h;exact⟨u,by rw[zI (λz=>hi _ (z▸h))];exact h1,h2⟩,λi ds h=>vP h Ba,λi j ds es l h=>vP h Ba,λi ks ds h=>vP h acO,X6.no no.pw⟩
theorem q25(n:Nat):∀(ks:af)(xss:bP)(a b:Int),(∀x∈xss,x.length<=n)->∀x∈Wx ks xss a b,x.length<=n+1
 | [],xss,_,_,h,x,hx=>wZ (h x hx)
 | _::_,[],_,_,h,x,hx=>by cases hx
 | k::ks,y::xss,a,b,h,x,hx=>by
  unfold Wx at hx
  by_cases z:k=a
  ·rw[iP]at hx
   rcases zG.mp hx with rfl|hx
   ·have:=h y zF
    rw[zD,zT];omega
   ·exact wZ (h x lN)
  ·rw[iw]at hx
   rcases zG.mp hx with rfl|hx
   ·exact wZ (h _ zF)
   ·exact q25 n ks xss a b (λx h'=>h x (zH _ h')) x hx
theorem Tab.told{K:zC}{G0 G:Hp}{H0:Fr}{H:Hp}{ω:WSt}{σ:St}{p:vF}{ks:af}{ls:cX}{xss:bP}(T:du)(o:bT)(no:Qt)(ob:Obj):
  ∃G',XL G G'/\Own K G0 H0 G' ω σ (upd H p Jg)/\Rep K G' (.dic ks (xss.map λxs=>.lst ig)) aO:=by
 obtain⟨H',hH⟩:∃H':Hp,H'=upd H p Jg:=bD;rw[<- hH];have hp':H' p=some Jg:=by rw[hH];exact qe
 have hn':∀b,b≠p->H' b=H b:=λb h=>by rw[hH];exact qd h
 let G':Hp:=λb=>if b=p\/b∈ls then H' b else G b
 have hin:∀b,Cy->G' b=H' b:=λb h=>vH h;have hout:∀b,¬Cy->G' b=G b:=λb h=>vJ h;have gn:∀b,Cy->G b=none/\H0 b=none:=λb h=>by
  rcases h with rfl|h
  ·exact⟨T.gp,T.hp⟩
  ·exact T.gl b h
 have gg:XL G G':=λb u z=>by
  by_cases y:b=p\/b∈ls
  ·rw[(gn b y).1]at z;cases z
  ·rw[Pl];exact z
 have gh:XL G' H':=λb u z=>by
  by_cases y:b=p\/b∈ls
  ·rw[hin b y]at z;exact z
  ·rw[Pl]at z;rw[hn' b λw=>y (.inl w)];exact o.gh b u z
 have hh:XL H0.hp H':=λb u z=>by
  rw[hn' b λw=>by rw[w,T.hp]at z;cases z];exact o.ext.hh b u z
 refine⟨G',gg,⟨⟨o.ext.gg.trans gg,gh,hh,Jm⟩,o.len,MZ,KR,o.nd,pA,aag⟩,p,ls.map V.ref,rfl,⟨ob,by rw[hin p bC];exact hp'⟩,by rw[zB,<- T.len2];exact T.len,?_⟩
 ·by_cases y:b=p\/b∈ls
  ·exact vP (gn b y).2 z2
  ·rw[Pl];exact o.ext.new b z1 z2
 ·obtain⟨v,h1,h2⟩:=o.sh i d h
  exact⟨v,h1,h2.mono gg⟩
 ·refine q1y (by rw[zB];exact T.len2.symm) λj d t h1 h2=>?_
  rw[zP]at h1;cases q:xss[j]? with
  | none=>rw[q]at h1;cases h1
  | some xs=>
   rw[q]at h1;cases h1;have hl:=T.lst j t xs h2 q;exact⟨t,_,rfl,by rw[hin t aeJ,hn' t λw=>by rw[w,T.dict]at hl;cases hl];exact hl,XB.ints xs⟩
theorem q73{K:zC}{ta tb:TE}{g0 g1:FD}(k2:zAX K ta g0)(k4:zAX K tb g1){G0:Hp}{H0:Fr}{G:Hp}{ω:WSt}{σ:St}{H:Hp}{p:vF}{ks:af}{ls:cX}{xss:bP}{a b:Int}{Q:VK}(o:bT)(no:Qt)(hσ:σ[2]?=some bQ)(T:du)(h0:g0 ω=some cB)(h1:g1 ω=some eu)(ha:a∈ks)(hz:∀xs∈xss,xs.length<1000000)(h:∀G' H',Own K G0 H0 G' ω σ H'->XL G G'->Tab G' H0 H' p ks ls EF->Q .non H'):tBM K "list" WN (zC8 Aq ta) (Xm tb Wh) σ H Q:=by
 refine⟨aO,hσ,k2 G0 H0 G ω σ H _ _ o h0 λu G1 H1 x1 y1=>?_⟩;cases (show u=.int a from y1);have o1:=o.keep x1;have T1:=T.keep x1;obtain⟨l,xs,m1,m2,m3,m4,m5,_⟩:=T1.app b ha;refine⟨p,cM,rfl,m4,.inl ⟨rfl,_,SqL.of m5⟩,k4 G0 H0 G1 ω σ H1 _ _ o1 h1 λu G2 H2 x2 y2=>?_⟩;cases (show u=.int b from y2);have o2:=o1.keep x2;have T2:=T1.keep x2;obtain⟨l',xs',n1,n2,n3,n4,n5,n6⟩:=T2.app b ha;rw[m3]at n3;cases n3;refine⟨l,_,.int b,rfl,rfl,n5,by rw[zB,vh];have:=hz xs' n2;omega,?_⟩;rw[show xs'.map V.int++[V.int b]=(xs'++[b]).map V.int by rw[zW];rfl];exact h G2 _ DU GQ n6
theorem q6U{a b:vW}{p:Pos}{n:Str}{env:Env}(m:Sem vB):uU (.Subscript a b p) n env m=m:=rfl
section
variable{X:Cx}
theorem qiY{x2 x3 x4:Str}{o0 o1 o2 o3 o4 o4b e0 e1 e0b e1b e0':vW}{q1 q2 q3 q4 q5 q6 q7 q8 q9 q10 q11 q12 q13 q14 q15 a1 a2 c1 c2:Pos}{g0 g1:FD}(hu:gM)(hp:jv)(hc:cV)(hN:X.N.Nodup)(i2:X.N[2]?=some x2)(i3:X.N[3]?=some x3)(i4:X.N[4]?=some x4)(l2:Kj)(l3:Ki)(l4:abZ)(f2:jR)(f3:jQ)(f4:Bd)(h0:adm)(h1:adl)(h2:PE X o2 Aq)(h2':PE X o4 Aq)(h2b:PE X o4b Aq)(h3:PE X o3 LV)(h5:PE X e0' Aq)(ha:ada)(hb:XD X e1 g1)(hab:XD X e0b g0)(hbb:XD X e1b g1)(hg0:∀(ω:WSt)e,ω[4]?=some n9->g0 ω=some Bi)(hg1:∀(ω:WSt)e,ω[4]?=some n9->g1 ω=some PZ)(s1:BF:=by rfl)(s2:om:=by rfl)(n0:zCx e0:=by intro _ _;rfl)(n1:zCx e1b:=by intro _ _;rfl)(w1:((vo c1 Mj).all (λx=>!x.1)&&(uO c1 kR).all ie&&decide (([e1]:List vW).length+([]:List uN).length+(if ([]:List uN).isEmpty then 0 else 1)<30))=true:=by rfl)(w2:((vo c2 abz).all (λx=>!x.1)&&(uO c2 kR).all ie&&decide (([e0b]:List vW).length+([]:List uN).length+(if ([]:List uN).isEmpty then 0 else 1)<30))=true:=by rfl)(z1:P4:=by rfl)(z2:B8:=by rfl)(t1:kE:=by rfl)(t2:BS:=by rfl)(p1:(vo c1 ck).any (·.1)=false:=by rfl)(p2:(vo c2 ck).any (·.1)=false:=by rfl)(v1:Jq:=by rfl)(v2:Iz:=by rfl)(y1:∀x,vz o0 X.env x=pure x:=by intro _;rfl)(y2:∀x,vz o1 X.env x=pure x:=by intro _;rfl):
  XSs X [.Assign [Ui] n8 q3,.For aeM o0 CC [] q12,
   .For aeL o1 Py [] q14,.Return (some e0') q15] sNb:=by
 obtain⟨ta,k1,k2⟩:=ha;obtain⟨tb,k3,k4⟩:=hb;obtain⟨ta',k1',k2'⟩:=hab;obtain⟨tb',k3',k4'⟩:=hbb;have hu:=hu1 hu;refine⟨_,ql Qh (ql ny
  (ql (q2y hp hc (q26 h1) aaO (ql fz
   eU) y2) RW)),λG0 H0 G ω σ H out ω' E ow e kk=>?_⟩
 unfold sNb at e
 split at e
 case h_2=>cases e
 case h_1 _ a b=>
 obtain⟨d,e2,e3⟩:=mpd e;clear e;cases e3;obtain⟨ts,e4,e5⟩:=bnd e2;obtain⟨es,e6,e7⟩:=bnd e5;clear e2 e5
 by_cases cond:ts.Nodup/\(∀e∈es,e.1∈ts/\e.2∈ts)/\ts.length<=1000/\es.length<=1000
 case neg=>rw[vJ cond]at e7;cases e7
 rw[vH cond]at e7;cases e7;obtain⟨cd1,cd2,cd3,cd4⟩:=cond;have ha':=q1w e4;have hb':=q4g e6;subst ha' hb';clear e4 e6;have no:WG br:=zBQ (x:=none);have hlen:σ.length=5:=ow.len.symm;obtain⟨v0,r0,A0,vs0,rfl,r1,r2⟩:=ow.sh 0 _ rfl;obtain⟨v1,r3,A1,vs1,rfl,r4,r5⟩:=ow.sh 1 _ rfl;have hvs0:=r2.of_ints;subst hvs0;intro p hpn;have o1:Own X.K G0 H0 G br (σ.set 2 bQ) iS:=(ow.free no ET A5).other no λw z=>by cases z
 have T0:Tab G H0 iS p (ts.take 0) [] OR:=⟨qe,ET,A5,rfl,rfl,λj l xs h=>(by simp at h),λl h=>(by cases h),xQ⟩;refine⟨.ref A0,by rw[zI (by decide)];exact r0,A0,rfl,MV,λn m σ2 H2=>∃ls,Own X.K G0 H0 G br σ2 H2/\σ2[2]?=some bQ/\Tab G H0 H2 p (ts.take n) ls OQ/\n<=ts.length/\m=ts.length-n,
  ⟨_,[],o1,yV (by rw[hlen];decide),T0,pB,rfl⟩,?_⟩
 rintro n m σ2 H2 ⟨ls,o2,s22,T2,hn,rfl⟩
 by_cases hlt:n<ts.length
 ·have hq:=o2.gh _ _ r1
  refine .inr ⟨⟨_,.int ts[n],SqL.of hq,by rw[zP,oZ];rfl⟩,λσ3 H3=>∃ls,Own X.K G0 H0 G br σ3 H3/\σ3[2]?=some bQ/\Tab G H0 H3 p acA ls L8,
   λσ3 H3 ⟨ls,b1,b2,b3⟩=>DA,λy H3 hy=>?_⟩
  obtain⟨rfl,hy⟩:=hy;have hy:=hy _ Jb;rw[zP,oZ]at hy;cases hy;have hl2:σ2.length=5:=o2.len.symm;refine⟨by show 0<=sizeLine;exact zn _,λl hl=>?_⟩;refine⟨.ref p,by rw[zI (by decide)];exact s22,.int ts[n],yV (by rw[hl2];decide),?_⟩;have nk:ts[n]∉ts.take n:=λz=>by
   obtain⟨j,hj,ej⟩:=zY.mp z;rw[xD]at ej;have hj':j<n:=by rw[zf]at hj;omega
   have:=(wK cd1).mp ej;omega
  obtain⟨H4,d1,d2,T4⟩:=T2.put nk hl o2.gh o2.ext.hh (by rw[zf];omega);refine⟨p,H4,rfl,d1,ls++[l],?_,by rw[zI (by decide)];exact s22,?_⟩
  ·subst d2
   exact((o2.free no acM UN).free no T2.gp T2.hp).other no λw z=>by cases z
  ·rw[(xN hlt).symm,zW]
   exact T4
 ·have en:n=ts.length:=∅
  subst en;rw[xh]at T2;refine .inl ⟨⟨_,SqL.of aed,by rw[zB];exact zL _⟩,?_⟩;obtain⟨v1',r3',A1',vs1',rfl,r4',r5'⟩:=o2.sh 1 _ rfl;have hl5:es.length=vs1'.length:=by have:=r5'.len;rw[zB]at this;exact this
  refine⟨.ref A1',r3',A1',rfl,Mc,λn m σ3 H3=>∃G3 x4,Own X.K G0 H0 G3 cI σ3 H3/\XL G G3/\σ3[2]?=some bQ/\Tab G3 H0 H3 p ts ls Lx /\
   (∀xs∈(es.take n).foldl (Xx ts) (ts.map λ_=>[]),xs.length<=2*n)/\n<=es.length/\m=es.length-n,
   ⟨_,G,none,o2,XL.refl _,s22,T2,λxs hx=>by obtain⟨_,_,rfl⟩:=zi.mp hx;exact zL _,zn _,rfl⟩,?_⟩
  rintro n m σ3 H3 ⟨G3,x4,o3,g3,s32,T3,b3,hn3,rfl⟩
  by_cases hlt3:n<es.length
  ·have hq3:=o3.gh _ _ J4
   have hlv:n<vs1'.length:=by rw[<- hl5];exact hlt3
   refine .inr ⟨⟨_,vs1'[n],ME,UE⟩,λσ4 H4=>∃G4 x4,Own X.K G0 H0 G4 cI σ4 H4/\XL G G4/\σ4[2]?=some bQ/\Tab G4 H0 H4 p ts ls Jh /\
    (∀xs∈(es.take (n+1)).foldl (Xx ts) (ts.map λ_=>[]),xs.length<=2*(n+1)),
    λσ4 H4 ⟨G4,x4,b1,b2,b4,b5,b6⟩=>AM,λy H4 hy=>?_⟩
   obtain⟨rfl,hy⟩:=hy;have hy:=hy _ ME;rw[UE]at hy;cases hy;have hd:(es.map Y4)[n]?=some (Y4 es[n]):=by rw[zP,zA hlt3];rfl
   obtain⟨v,hv1,hv2⟩:=r5'.get hd;rw[UE]at hv1;cases hv1;have hl3:σ3.length=5:=o3.len.symm;have o4:Own X.K G0 H0 G3 [nP,↥aT,none,none,↥(Y4 es[n])] (σ3.set 4 (some vs1'[n])) H4:=o3.setSh (i:=4) (hv2.mono g3);have no4:WG [nP,↥aT,none,none,↥(Y4 es[n])]:=zBQ (x:=some (Y4 es[n]));have s42:(σ3.set 4 (some vs1'[n]))[2]?=some bQ:=by rw[zI (by decide)];exact s32
   obtain⟨in1,in2⟩:=cd2 es[n] (yZ hlt3);refine q73 k2 k4 o4 no4 s42 T3 (hg0 _ es[n] rfl) (hg1 _ es[n] rfl) in1 (λxs hx=>by have:=b3 xs hx;omega) λG5 H5 o5 g5 T5=>?_;have b5:=q25 (2*n) ts _ es[n].1 es[n].2 b3;refine q73 k4' k2' o5 no4 s42 T5 (hg1 _ es[n] rfl) (hg0 _ es[n] rfl) in2 (λxs hx=>by have:=b5 xs hx;omega) λG6 H6 o6 g6 T6=>?_;have b6:=q25 (2*n+1) ts _ es[n].2 es[n].1 b5;have et:es.take (n+1)=es.take n++[es[n]]:=(xN hlt3).symm;refine⟨G6,some (Y4 es[n]),o6,Up,s42,?_,?_⟩
   ·rw[et,wG];exact T6
   ·rw[et,wG]
    intro xs hx;have:=b6 xs hx;omega
  ·have en3:n=es.length:=∅
   subst en3;rw[xh]at T3;refine .inl ⟨⟨_,SqL.of aec,by rw[hl5];exact zL _⟩,?_⟩;have no3:WG cI:=zBQ;refine Ma;obtain⟨G',g',o',rp⟩:=T3.told o3 no3 ob;generalize upd H3 p (.frz ob _)=H4 at o' ⊢;refine⟨aO,s32,?_⟩;have oF:Own X.K G0 H0 G' br σ3 H4:=by
    refine⟨o'.ext,o'.len,MZ,KR,λi j ds es l h=>vP h Ba,pA,aag⟩
    match i,h with
    | 0,h=>exact o'.sh 0 d h
    | 1,h=>exact o'.sh 1 d h
    | 2,h=>cases h
    | 3,h=>cases h
    | 4,h=>cases h
    | i+5,h=>simp at h
   exact kk G' σ3 H4 oF (g3.trans g') aO rp
end
theorem qd6{ω:WSt}{e:bo}(h:ω[4]?=some ↥(Y4 e)):dOf N7 ω=some Bi:=by
 unfold dOf Y9 vOf Y1 fC;rw[h];rfl
theorem qeb{ω:WSt}{e:bo}(h:ω[4]?=some ↥(Y4 e)):dOf N6 ω=some PZ:=by
 unfold dOf Y9 vOf Y1 fC;rw[h];rfl
noncomputable def zCl(i:Nat)(ω:WSt)(c d:dU):Option eX:=c.bind λc=>d.bind λd=>match c with
 | .int k=>some oq
 | _=>none
noncomputable def dsetS(i:Nat)(ω:WSt)(v c:dU)(w:Az):Option eX:=v.bind λd=>c.bind λc=>match c,w with
 | .int k,some (some (.od ks ds))=>if ks.length<1000000 then some jI else none
 | _,_=>none
noncomputable def dgetR(o:Option By)(c:dU):Option R:=o.bind λp=>c.bind λc=>match c with
 | .int k=>(Xc p.1 p.2 k).map R.sh
 | _=>none
noncomputable def dhasT(neg:Bool)(c:dU)(o:Option By):Option Bool:=c.bind λc=>o.bind λp=>match c with
 | .int k=>some (if neg then !(Xc p.1 p.2 k).isSome else (Xc p.1 p.2 k).isSome)
 | _=>none
noncomputable def zCf(o:Option By):Option R:=o.bind λp=>if p.1.length<64 then some Ow else none
noncomputable def pop0(i:Nat)(ω:WSt)(w:Az):Option (D×WSt):=match w with
 | some (some (.ow ds))=>(ds[ds.length-1]?).map λd=>GA
 | _=>none
noncomputable def zDB(j i:Nat)(ω:WSt)(w:Az):Option eX:=(pop0 i ω w).map λp=>(.nx,p.2.set j abD)
section
variable{ω:WSt}{fk fv:FD}{i j:Nat}{ks:List Int}{ds:List D}{k:Int}{d:D}{neg:Bool}
theorem qe8:zBM i ω=some aa8:=rfl
theorem qbT:zBy i fk fv ω=zCl i ω acY (fv ω):=rfl
theorem qh1:zCl i ω eI BG=some oq:=rfl
theorem qel:zBR i fk fv ω=dsetS i ω (fv ω) acY ω[i]?:=rfl
theorem qeD:zAO i fk ω=dgetR (W8 ω[i]?) acY:=rfl
theorem qgE:dgetR acE eI=(Xc ks ds k).map R.sh:=rfl
theorem qgv:W8 acD=some Hd:=rfl
theorem qgZ:W8 (some ↥El)=some Hd:=rfl
theorem qdJ:zB7 neg i fk ω=dhasT neg acY (W8 ω[i]?):=rfl
theorem qh5:dhasT true eI acE=some (!(Xc ks ds k).isSome):=rfl
theorem qbW:zBr i ω=zCf (W8 ω[i]?):=rfl
theorem qaY:zCH j (zCc i) ω=zDB j i ω ω[i]?:=rfl
theorem qgU:shrS i ω acD=ω.set i ↥El:=rfl
end
theorem q48{i:Nat}{ω:WSt}{ks:af}{ds:aY}{k:Int}{d:D}(h:La):dsetS i ω BG eI acD=some jI:=vH h
theorem qfA{ks:af}{ds:aY}(h:ks.length<64):zCf acE=some (.fr HV):=vH h
theorem qhj{j i:Nat}{ω:WSt}{ds:aY}{d:D}:zDB j i ω (some Q2)=some (.nx,(ω.set i di).set j ↥d):=by
 unfold zDB pop0;have e1:(ds++[d])[aci]?=some d:=by
  rw[zD,zT,Z7,zb bX,wY];rfl
 have e2:(ds++[d]).dropLast=ds:=by simp
 show Option.map _ (((ds++[d])[aci]?).map _)=_;rw[e1,e2];rfl
section
variable{X:Cx}{o k e:vW}{pos pos':Pos}{i:Nat}{fk fv:FD}
end
section
variable{X:Cx}{e:vW}{pos pos':Pos}{i:Nat}{fe:FD}
noncomputable def sAug(g:AI)(i:Nat)(fe:FD):FS:=λω=>(fe ω).bind λd=>match d,ω[i]? with
 | .int b,some ↥(.int a)=>some pJ
 | _,_=>none
theorem qiF{x:Str}{op:se}{g:AI}(hop:PIp X op (ipI g))(hN:X.N.Nodup)(hi:X.N[i]?=some x)(hx:fq)(he:XV X e fe)(hf:aN:=by first|exact .inl rfl|exact .inr rfl|assumption):
  XS X P2 (sAug g i fe):=by
 obtain⟨t,h1,h2⟩:=he;refine⟨_,qj2 hN hi hx h1 hop hf,mY⟩;obtain⟨d,q1,e⟩:=bnd e;cases d with
 | int b=>
  split at e
  ·rename_i _ _ _ b' a ek q3
   cases ek;cases e;obtain⟨v,r1,r2⟩:=ow.sh i _ q3;cases (show v=.int a from r2);refine⟨cB,r1,h2 G0 H0 G ω σ H _ _ ow q1 λu G1 H1 x1 y1=>?_⟩;cases y1.int;exact⟨a,b,rfl,rfl,kk G1 _ H1 ((ow.keep x1).setSh (d:=.int (g a b)) (v:=.int (g a b)) rfl) x1.gg⟩
  ·cases e
 | _=>cases e
end
section
open PySem.Spec PyProof.Rows
variable{X:Cx}
end
end Hk
namespace L2
open PySem PySem.Spec PyProof.Rows
end L2
namespace Hk
open PySem L2
noncomputable def augS(g:AI)(i:Nat)(ω:WSt)(v:dU)(w:Az):Option eX:=v.bind λd=>match d,w with
 | .int b,some ↥(.int a)=>some pJ
 | _,_=>none
section
variable{ω:WSt}{fk fv:FD}{fa:FA}{i j:Nat}{ds:List D}{a b c:Int}{d:D}{g:Int->Int->Int}
theorem qh0:sAug g i fv ω=augS g i ω (fv ω) ω[i]?:=rfl
theorem qcQ:augS g i ω (some eu) (some ↥cB)=some pJ:=rfl
end
end Hk
namespace L2
open PySem PySem.Spec PyProof.Rows
noncomputable def Ite(K:zC)(a:vF):It :=
 ⟨λi H=>∃xs x,SqL K H a xs/\xs[i]?=some x,
  λi H x H'=>∃t x1,H t=none/\x=.ref t/\H'=upd H t aeG/\∀xs,SqL K H a xs->xs[i]?=some x1,
  λi H=>∃xs,SqL K H a xs/\xs[i]?=none⟩
theorem qdP{P:vU}{w:vY}{K:zC}{elts:jw}{kx}{tpos:Pos}(a e it:vF)(hne:e≠it)(hae:a≠e)(hai:a≠it):
  Turn P w K ko ads [e,it] e (λi h=>(∃old,IsEnum h e it oa old)/\h.IsListIter it a i) where
 mem:=by simp
 obj:=λi h st c hc=>by
  obtain⟨⟨old,s1⟩,⟨o4,e4,c4,d4⟩⟩:=st;simp only[zG,zj,or_false]at hc;rcases hc with rfl|rfl
  ·exact⟨_,s1,λv y=>by cases (show Data.fields _=Data.cell v from y)⟩
  ·exact⟨_,e4,λv y=>by rw[d4]at y;cases y⟩
 keep:=λi h h' st k=>by
  obtain⟨⟨old,s1⟩,s4⟩:=st;exact⟨⟨old,k _ (by simp) _ s1⟩,s4.at λo e=>k _ (by simp) o e⟩
 item:=by
  intro X hP hw hK hc i pins s σ H E I hf st hg;subst hP hw hK;obtain⟨xs,x,hq,hx⟩:=hg;obtain⟨its,rv,p,hz⟩:=I.list hq;obtain⟨u,hu,ru⟩:=rv.get hx;obtain⟨⟨old,s1⟩,s4⟩:=st;have ex:∀c∈[e,it],∃o,s.heap.get? c=some o:=λc hc=>by
   simp only[zG,zj,or_false]at hc;rcases hc with rfl|rfl
   ·exact⟨_,s1⟩
   ·obtain⟨o,e,_⟩:=s4;exact Ir
  have nt:∀c∈[e,it],c≠s.heap.objs.size:=λc hc=>by
   obtain⟨o,e⟩:=ex c hc;exact zy Ep
  refine wpAny_pyNext_enum_item s1 s4 p.isList (x:=u) (by simpa using hu) hne λh' a1 a2 a3 a4 hk=>?_;have hn:H s.heap.objs.size=none:=I.hok.fresh bX;have I1:Inv X pins σ gZ { s with heap:=s.heap.push { cls:=.type "tuple", data:=.seq #[.int i s.toks,u] },toks:=s.toks+1 } :=
   I.laid aaH bX (show Xg X.prog X.w _ _ _ (.tup [iR,x])from ⟨by show 2<=sizeLine;decide,[.int i s.toks,u],.cons bD adF,GK⟩)
  have hf':∀c∈[e,it],Wm X pins gZ c:=λc hc=>by
   obtain⟨f0,f⟩:=hf c hc;exact⟨by rw[qd (nt c hc)];exact f0,f⟩
  have I2:Inv X pins σ gZ { s with heap:=h',toks:=s.toks+1 }:=I1.turnedL (λb o hb e=>by
   simp only[zG,zj,or_false,not_or]at hb
   by_cases q:b=s.heap.objs.size
   ·subst q
    rw[jt]at e;cases e;exact a3
   ·have e':s.heap.get? b=some o:=by
     rcases zz b s.heap.objs.size with l|l
     ·obtain⟨z1,z2⟩:=wV.mp e
      refine wV.mpr ⟨?_,z2⟩;rw[<- z1];show s.heap.objs[b]?=(s.heap.objs.push _)[b]?;rw[Zr,vJ q]
     ·have:=zN e
      rw[yo]at this;exact vP (by simp only[vF]at *;omega) q
    exact hk b o hb.1 hb.2 e') hf'
  refine⟨_,rfl,wpAny_letOwnedTupleGo_enum a1 λh2 b1 sb=>?_⟩;have I3:Inv X pins σ gZ { s with heap:=h2,toks:=s.toks+1 }:=I2.turnedL (λb o hb e=>(sb.2 b (λq=>hb (by simp[q]))).trans e) hf';have hi:((i+1:Nat):Int)=oa+1:=by push_cast;rfl
  refine⟨aL,_,I3,rfl,⟨_,x,hn,rfl,rfl,λxs' q1=>by rw[I.list_inj q1 hq];exact hx⟩,⟨⟨u,by rw[hi];exact b1⟩,a2.extBut sb.extBut (Ne.symm hne)⟩,Vn⟩
 done:=by
  intro X hP hw hK hc i pins s σ H E I hf st hg;subst hP hw hK;obtain⟨xs,hq,hx⟩:=hg;obtain⟨its,rv,p,hz⟩:=I.list hq;obtain⟨⟨old,s1⟩,s4⟩:=st;have l1:=rv.length;refine wpAny_pyNext_enum_end jV s1 s4 p.isList ?_ λh' hk=>Bk
  ·rw[wO]at hx;simp;omega
  ·simp only[zG,zj,or_false,not_or]at hb
   exact hk b o hb.2 e
 self:=λ_ _ _ _ _ st h=>by
  obtain⟨⟨old,s1⟩,s4⟩:=st;exact wpAny_pyIter_enum s1 h
noncomputable def iEnum(K:zC)(ta:TA):TI:=λσ H R=>ta σ H λvs H1=>∃a xs,vs=[dH]/\SqL K H1 a xs/\R ads H1
theorem qbO{X:Cx}{a:vW}{ta:TA}{p pos tpos:Pos}{elts:jw}{kx}(hg:MM)(hm:Ec)(ha:PA X [a] ta)(hs:CQ:=by rfl):
  PI X ko Fa (iEnum X.K ta):=by
 intro pins s σ H R I h;refine Call_ (q17 I hg hm PyProof.Rows.boot_enumerate rf);obtain⟨vs,H1,I1,r1,q1⟩:=Z_;obtain⟨l,xs,e,hq,q⟩:=q1;subst e;cases r1 with
 | cons r rr=>
  cases rr;cases r;obtain⟨its,rv,p1,hz⟩:=I1.list hq;have hlt:l<s1.heap.objs.size:=by obtain⟨_,_,e,_⟩:=p1;exact zN e
  refine call_enumerate_list p1.isList λh' a1 a2 a3 hk=>?_;refine wpAny_pyIter_enum a1 ?_;refine⟨AN,[AN,s1.heap.objs.size],_,_,H1,rfl,Ru,qdP l _ _ (Nat.succ_ne_self _) (zy (yX hlt)) Nr,⟨⟨_,a1⟩,a2⟩,λc hc=>?_,q⟩;have hle:s1.heap.objs.size<=c:=by
   simp only[zG,zj,or_false]at hc;simp only[vF]at *;omega
  exact I1.fpOk hle aap
end L2
namespace Hk
open PySem L2
noncomputable def W7:Nat->List D->List D
 | i,a::as=>.tup [iR,a]::W7 (i+1) as
 | _,[]=>[]
theorem q5b:∀(i:Nat)(as:aY),(W7 i as).length=as.length
 | i,a::as=>by show (W7 (i+1) as).length+1=_;rw[q5b];rfl
 | i,[]=>rfl
theorem q7S:∀(k:Nat)(as:aY)(i:Nat)(d:D),(W7 k as)[i]?=some d->∃a,as[i]?=some a/\d=.tup [.int ((k+i:Nat):Int),a]
 | k,a::as,0,d,h=>by cases h;exact⟨a,rfl,rfl⟩
 | k,a::as,i+1,d,h=>by
  obtain⟨b,h1,h2⟩:=q7S (k+1) as i d h;exact⟨b,h1,by rw[h2];congr 4;omega⟩
 | k,[],i,d,h=>by cases h
theorem qei{K:zC}{G:Hp}{a:vF}{ds:aY}{vs:bg}(h1:aas)(h2:oi):IterOf K ads G (W7 0 ds):=by
 have l1:=h2.len;refine⟨GO,iI,λH s=>⟨vs,MD,?_⟩⟩
 ·rw[q5b]at hi
  exact⟨vs,vs[i]'∅,MD,zA _⟩
 ·obtain⟨t,x1,ht,rfl,rfl,y⟩:=hy
  have e1:=y vs TU;obtain⟨p,f1,rfl⟩:=q7S 0 ds i d hd;obtain⟨v,q1,q2⟩:=h2.get f1;rw[e1]at q1;cases q1;have x2:=Ext.lay s1 ht aeG;exact⟨_,x2,⟨t,_,rfl,qe,XB.cons (by show (.int i:V)=.int adJ;rw[xZ]) (XB.cons (q2.mono K5) XB.nil)⟩⟩
 ·rw[q5b];exact zu ∅
noncomputable def iEn(g:FA):FI:=λω=>(g ω).bind λds=>match ds with
 | [.lst a]=>some (W7 0 a)
 | _=>none
theorem qhL{X:Cx}{a:vW}{g:FA}{p pos tpos:Pos}{elts:jw}{kx}(hg:MM)(hm:Ec)(ha:XA X [a] g)(hs:CQ:=by rfl):
  XI X ko Fa (iEn g):=by
 obtain⟨⟨t,h1,h2⟩,_⟩:=ha;refine⟨_,qbO hg hm h1 hs,kK⟩;obtain⟨vs,q,e⟩:=bnd e;refine h2 G0 H0 G ω σ H vs _ o q λus G1 H1 x1 y1=>?_
 match vs,e with
 | [.lst as],e=>
  cases e;obtain⟨v1,r1,rfl,z1,z2⟩:=y1;cases (show r1=[]from z2);obtain⟨a1,ws1,rfl,f1,f2⟩:=z1;exact⟨a1,ws1,rfl,U2,k _ G1 H1 x1 (qei f1 f2)⟩
noncomputable def enI(o:BY):Option aY:=o.bind λds=>match ds with
 | [.lst a]=>some (W7 0 a)
 | _=>none
theorem qgM{fa:FA}{ω:WSt}:iEn fa ω=enI NV:=rfl
theorem qgN{ds:aY}:enI (some [fQ])=some (W7 0 ds):=rfl
section
open PyProof.Rows PySem.Spec
variable{prog:vU}{w:vY}{A:vg}{E:vB->vC->Prop}{s:vC}{l:vF}{xs:Array (Int×Tok)}
end
section
variable{X:Cx}
open PyProof.Rows PySem.Spec
end
end Hk
namespace Hk
open PySem PySem.Spec PyProof.Rows L2
section
variable{prog:vU}{w:vY}{A:vg}{E:vB->vC->Prop}{s:vC}
end
end Hk
namespace L2
open PySem PySem.Spec PyProof.Rows Hk
end L2
namespace Hk
open PySem L2
end Hk
namespace L2
open PySem PySem.Spec PyProof.Rows
noncomputable def Itk(a:vF)(ob:Obj)(kvs:eV):It :=
 ⟨λi H=>H a=some jm/\i<kvs.length,λi H x H'=>H'=H/\∃n v,kvs[i]?=some (adg,v)/\x=.int n,λi H=>H a=some jm/\kvs.length<=i⟩
theorem qe3{X:Cx}{pins:aD}{σ:St}{H:Hp}{s:vC}{a:vF}{ob:Obj}{kvs:eV}{es0:Ot}{ep:Nat}(I:au)(h:H a=some jm)(hd:VN):
  Cz=false/\∃vs,KV kvs vs/\s.heap.DictAt oD a vs ep:=by
 obtain⟨e,_,lo,vs,r,o,es,ep',e',c1,c2,c3⟩:=(show Xg X.prog X.w H s.heap a jm from I.hok a _ h);refine⟨lo,vs,r,o,es,e',c1,?_,c3⟩;rw[e]at e';cases e';rw[hd]at c2;cases c2;exact hd
theorem qer{P:vU}{w:vY}{K:zC}{tg:vW}{ob:Obj}{kvs:eV}{es0:Ot}{ep:Nat}(a it:vF)(hne:a≠it)(hd:VN)(hk:∀p∈kvs,∃n:Int,p.1=oG):
  Turn P w K tg aeD [it] it (λi h=>h.IsKeyIter it a i kvs.length ep) where
 mem:=by simp
 obj:=λi h st b hb=>by
  have e:b=it:=by simpa using hb
  subst e;obtain⟨o,e,c,d⟩:=st;exact⟨o,e,λv z=>by rw[d]at z;cases z⟩
 keep:=λi h h' st k=>st.at λo e=>k it (by simp) o e
 item:=by
  intro X hP hw hK hc i pins s σ H E I hf st hg;subst hP hw hK;obtain⟨hq,hi⟩:=hg;obtain⟨lo,vs,r,hm⟩:=qe3 I hq hd;have hl:kvs.length=vs.length:=by have:=uB wD r.keys;simpa using this
  obtain⟨⟨k,v⟩,hx⟩:∃p,kvs[i]?=some p:=⟨kvs[i],Vr⟩;obtain⟨n,rfl⟩:=hk _ (zg hx);obtain⟨⟨k',u⟩,hu⟩:∃p,vs[i]?=some p:=⟨vs[i]'∅,zA _⟩;have ek:k'=oG:=by
   have h1:(kvs.map (·.1))[i]?=some adg:=by rw[zP,hx];rfl
   rw[r.keys,zP,hu]at h1;exact zr h1
  subst ek;obtain⟨f0,f1,f2,f3,f4,f5⟩:=hf it (by simp);rw[hl]at st;refine wpAny_pyNext_dict_item st hm hu λkey h' hkey st' sb=>?_;have I1:Inv X pins σ H { s with heap:=h' }:=I.turned (t':=s.toks) oY f0 f1 f3 f4 f5;obtain⟨t,rfl⟩:∃t,key=.int n t:=by
   rcases qH (k:=oG) hkey with⟨i,t,e4,rfl⟩|⟨x,t,e4,_⟩
   ·cases e4;exact MU
   ·cases e4
  obtain⟨o,e,c,d⟩:=id st';rw[<- hl]at st';exact⟨.int n t,rfl,q8G (s:={ s with heap:=h' }) e c d (by decide) ⟨Io,H,I1,MU,⟨rfl,n,v,hx,rfl⟩,st',A9⟩⟩
 done:=by
  intro X hP hw hK hc i pins s σ H E I hf st hg;subst hP hw hK;obtain⟨hq,hi⟩:=hg;obtain⟨lo,vs,r,hm⟩:=qe3 I hq hd;have hl:kvs.length=vs.length:=by have:=uB wD r.keys;simpa using this
  obtain⟨f0,f1,f2,f3,f4,f5⟩:=hf it (by simp);rw[hl]at st;exact wpAny_pyNext_dict_end jV st hm Vp λh' eb=>cF
 self:=λ_ _ _ _ _ st h=>wpAny_pyIter_keyiter st h
noncomputable def iKeys(tl:TE):TI:=λσ H R=>tl σ H λv H1=>∃a ob kvs,v=.ref a/\H1 a=some jm/\(∀p∈kvs,∃n:Int,p.1=oG)/\R aeD H1
theorem qi2{X:Cx}{tg l:vW}{tl:TE}(hl:PE X l tl):PI X tg l (iKeys tl):=by
 intro pins s σ H R I h;refine thn DW λv s1 Z_=>?_;obtain⟨x,H1,I1,r1,q1⟩:=Z_;obtain⟨a,ob,kvs,e,hq,hk,q⟩:=q1;subst e;cases r1;obtain⟨e0,_,lo,vs,r,o,es,ep,e',c1,c2,c3⟩:=(show Xg X.prog X.w H1 s1.heap a jm from I1.hok a _ hq);have hob:ob.data=.dict es ep:=by rw[e0]at e';cases e';exact c2
 have hm:s1.heap.DictAt oD a vs ep:=⟨o,es,e',c1,c2,c3⟩;have hlen:kvs.length=vs.length:=by have:=uB wD r.keys;simpa using this
 have hlt:a<s1.heap.objs.size:=zN e0;refine wpAny_pyIter_dict lo hm ?_;refine⟨s1.heap.objs.size,IK,_,_,H1,rfl,I1.kept (t':=s1.toks) λb o e=>zE _ e,qer a _ Nr hob hk,⟨_,zU _ rfl,rfl,by rw[hlen];rfl⟩,kP,q⟩;have e:b=s1.heap.objs.size:=by simpa using hb
 subst e;exact I1.fpOk bX pI
end L2
namespace Hk
open PySem L2
theorem q7N:∀{ks:af}{vs:bg}{i:Nat}{n:Int}{v:V},(kvsOf ks vs)[i]?=some (adg,v)->ks[i]?=some n
 | [],_,_,_,_,h=>by cases h
 | _::_,[],_,_,_,h=>by cases h
 | k::ks,v::vs,0,n,u,h=>by cases h;rfl
 | k::ks,v::vs,i+1,n,u,h=>q7N (ks:=ks) (vs:=vs) h
theorem q80:∀{ks:af}{vs:bg},∀p∈kvsOf ks vs,∃n:Int,p.1=oG
 | [],_,_,h=>by cases h
 | _::_,[],_,h=>by cases h
 | k::ks,v::vs,p,h=>by
  rcases zG.mp h with rfl|h
  ·exact⟨k,rfl⟩
  ·exact q80 p h
theorem qdn{K:zC}{G:Hp}{a:vF}{ob:Obj}{ks:af}{vs:bg}(h1:G a=some (.frz ob KI))(hl:aaV):IterOf K (Itk a ob kU) G NO:=by
 have l1:=q2u hl;refine⟨λH i s hi=>⟨s _ _ h1,by rw[zB]at hi;omega⟩,iI,λH s=>⟨s _ _ h1,by rw[zB];omega⟩⟩;obtain⟨e,n,v,q1,q2⟩:=hy;subst e q2;have:=q7N q1;rw[zP,this]at hd;cases hd;exact⟨G2,aat,rfl⟩
noncomputable def zCG:Option dh->Option aY
 | some ↥(.dic ks _)=>some NO
 | _=>none
noncomputable def iDk(i:Nat):FI:=λω=>zCG ω[i]?
theorem qhv{X:Cx}{tg o:vW}{i:Nat}(ho:mR):XI X tg o (iDk i):=by
 refine⟨_,qi2 ho,λG0 H0 G ω σ H ds R ow e k=>?_⟩;unfold iDk zCG at e
 split at e
 ·rename_i ks ds' q
  cases e;obtain⟨v,h1,p,vs,rfl,⟨ob,h2⟩,h3,h4⟩:=ow.sh i _ q;exact⟨aO,h1,p,ob,_,rfl,ow.gh _ _ h2,q80,k _ G H ab2 (qdn h2 (by rw[h3];exact h4.len))⟩
 ·cases e
end Hk
namespace Hk
open PySem PySem.Spec L2 PyProof.Rows
section
variable{P:vU}{w:vY}{H:Hp}{h:vk}{a:vF}{o:HO}
end
section
variable{X:Cx}{pins:List (vF×Obj)}{σ:L2.St}{H:Hp}{s:vC}{h':vk}
end
section
variable{X:Cx}{E:XK}
end
noncomputable abbrev FX:=WSt->Option Str
section
variable{X:Cx}{E:XK}{st:vm}{rest:List vm}{e:vW}{es:List vW}{pos:Pos}{g g':FX}
end
end Hk
namespace PySem
section
variable{M:Model}{A:vg}{E:vB->vC->Prop}{nm q:Str}{C N:vF}{bs bm:List vB}{hdct:Bool}{sn:List Str}{sub:List vB}{ab:Bool}{col:Option Bool}{dd:Option vF}{k0 k1 k2 k3 k5:Option vB}{newId:String}
variable{nm' q':Str}{C' N':vF}{bs' bm':List vB}{hdct':Bool}{sn':List Str}{sub':List vB}{ab':Bool}{col':Option Bool}{dd':Option vF}{j0 j1 j2 j3 j5:Option vB}{newId':String}
end
end PySem
namespace Hk
open PySem PySem.Spec L2 PyProof.Rows
section
variable{X:Cx}{pins:List (vF×Obj)}{σ:L2.St}{H:Hp}{s:vC}
end
section
variable{X:Cx}{st:vm}{rest:List vm}{e:vW}{es:List vW}{pos:Pos}{g g':FX}
end
section
variable{X:Cx}{pins:List (vF×Obj)}{σ:L2.St}{H:Hp}{s:vC}
end
section
variable{K:zC}{G0:Hp}{H0:Fr}{G:Hp}{ω:WSt}{σ:L2.St}{H:Hp}
end
section
variable{X:Cx}
end
end Hk
namespace PySem.W
open PySem PySem.Calls PyProof.Rows
open Builtin Builtin.ObjectAttr Builtin.Getset_descriptor
section
variable{prog:vU}{w:vY}{A:vg}{E:vB->vC->Prop}{K:Frag}{x C:vF}{h:vk}{g:Array sC}{d:sy}{t:Nat}{os:OsState}{ob:Obj}
end
end PySem.W
namespace Hk
open PySem PySem.Spec L2 PyProof.Rows
section
variable{X:Cx}{a:vW}{f:FD}
end
section
variable{X:Cx}{E:XK}{st:vm}{rest:List vm}{g:FX}
end
section
variable{f fh:FS}{g g':FX}{cs:List Str}{i:Nat}{ω w:WSt}{c:Str}{ft:FT}{fa:FA}{ds:List D}{fd:FD}{fe:FE}{o:Out}{r:R}
end
section
variable{X:Cx}
end
section
variable{f fh:FS}{g:FX}{cs:List Str}{ω:WSt}{c:Str}
end
end Hk
namespace L2
open PySem PySem.Spec PyProof.Rows
section
variable{X:Cx}{pins:List (vF×Obj)}{σ:St}{H:Hp}{s:vC}{a:vF}{A:vg}{E:vB->vC->Prop}{kvs:List (Key×V)}{k:Key}{u r:vB}{z:V}
theorem qg0{Q:aQ}(I:au)(e:Nd)(hz:aaU)(ry:RelV VT u)(rz:RelV z r)(h1:∀v w' s',W0 kvs k=some v->Inv X pins σ H s'->RelV v w'->Q w' s')(h2:W0 kvs k=none->∀s',Inv X pins σ (upd H a Uh) s'->Q r s'):
  vQ aq A (call (.builtin "dict.setdefault") [dH,u,r]) Q E s:=by
 obtain⟨zl,hd,vs,rel,dd⟩:=qcl I.hok e;have rv:=rel.val k;refine sr PySem.F.slot_dict_setdefault dd.typeIs PySem.F.entry_dict_setdefault (PySem.F.args_dict_setdefault_3 _ _ _) (kt_meets_setdefault oD a NH hd r)
  ⟨vs,dd,by rw[<- rel.length];exact zl,λv hv=>?_,λhn h' dd' hs=>?_⟩
 ·rw[hv]at rv
  cases q:W0 kvs k with
  | none=>rw[q]at rv;exact rv.elim
  | some v0=>rw[q]at rv;exact h1 v0 v _ q jG rv
 ·rw[hn]at rv
  cases q:W0 kvs k with
  | some v0=>rw[q]at rv;exact rv.elim
  | none=>
   refine h2 q _ ?_;have he:∃q,h'.get? a=some q:=let ⟨q,_,_,hq,_⟩:=dd';OU
   have hl:(putK kvs k z).length<=sizeLine:=by rw[qf4 z q,zD,zT];exact hz
   exact q5J I (by rw[e];exact True.intro) hs he (q90 hl hd (rel.put k rz) dd')
end
noncomputable def tDSd(td ty tx:TE):TE:=λσ H Q=>td σ H λx H1=>∃a,x=.ref a/\IsD H1 a/\ty σ H1 λy H2=>tx σ H2 λz H3=>∃kvs k,H3 a=some cj/\y=kV k/\kvs.length<sizeLine /\
 (∀v,W0 kvs k=some v->Q v H3)/\(W0 kvs k=none->Q z (upd H3 a Uh))
theorem qjl{X:Cx}{o e f:vW}{apos cpos:Pos}{td ty tx:TE}(ho:MH)(he:PE X e ty)(hf:PE X f tx)(m:M2 X o "setdefault" apos e f cpos):PE X (.Call (.Attribute o "setdefault" apos) [e,f] [] cpos) (tDSd td ty tx):=by
 intro pins s σ H Q I h;refine wpAny_Call_method m.base m.few m.line PySem.F.plainAttrs_dict PySem.F.slot_dict_setdefault PySem.F.type_dict_setdefault QW;obtain⟨x,H1,I1,rx,a,ex,d,q1⟩:=Z_;subst ex;obtain rfl:u=Value.ref a:=rx;obtain⟨t1,t2,_⟩:=qdM I1 d;refine⟨t1,t2,?_⟩;rw[m.trees];refine Calls.callWith_builtin rfl (Calls.evalArgs_plain (Calls.spliced_cons (thn NR λiv s2 ⟨y,H2,I2,ry,q2⟩=>
  Calls.spliced_cons (thn NQ λfv s3 ⟨z,H3,I3,rz,kvs,k,ea,ey,hz,g1,g2⟩=>Calls.spliced_nil ?_))))
 subst ey;exact qg0 I3 ea hz ry rz (λv w' s4 hv I4 rw'=>⟨v,H3,I4,rw',g1 v hv⟩) λhn s4 I4=>⟨z,_,I4,rz,g2 hn⟩
end L2
namespace Hk
open PySem L2
theorem q0Q{α:Type}:∀{ks:af}{xs:bH}{k:Int},ks.length=xs.length->(Xc ks xs k).isSome=decide (k∈ks)
 | [],[],k,_=>by simp[Xc]
 | [],_::_,_,h=>by simp at h
 | _::_,[],_,h=>by simp at h
 | k'::ks,x::xs,k,h=>by
  show (if k'=k then some x else Xc ks xs k).isSome=_
  by_cases z:k'=k
  ·rw[iP,vT (by rw[z];exact zF)];rfl
  ·rw[iw,q0Q ⇑h]
   have:(k∈k'::ks)↔k∈ks:=⟨λm=>(zG.mp m).resolve_left λe=>z e.symm,zH _⟩;rw[decide_eq_decide.mpr this]
theorem q85{α:Type}{v:α}:∀{ks:af}{xs:bH}{k:Int},ks.length=xs.length->k∉ks->Xc He (xs++[v]) k=some v
 | [],[],k,_,_=>vH rfl
 | [],_::_,_,h,_=>by simp at h
 | _::_,[],_,h,_=>by simp at h
 | k'::ks,x::xs,k,h,hk=>by
  show (if k'=k then some x else Xc He (xs++[v]) k)=some v;rw[vJ (λz=>hk (by rw[z];exact zF))];exact q85 ⇑h λm=>hk (zH _ m)
noncomputable def X4(st:List Int×List af)(n:Int)(a:Int):List Int×List af :=
 if a∈st.1 then (st.1,Wx st.1 st.2 a n)else (st.1++[a],Wx (st.1++[a]) (st.2++[[]]) a n)
noncomputable def byS(as:ae):Nat->List Int×List af
 | 0=>([],[])
 | n+1=>match as[n]? with
  | some a=>X4 NX n a.1
  | none=>byS as n
noncomputable def spT(K:zC):Sp:=λvs H Q _=>∃(G:Hp) (as:ae),XL G H/\XB K G [aU] vs/\as.length<=9000 /\
 ∀G' p ls H',Ext G H G' H'->Tab G' H H' p (byS as as.length).1 ls (byS as as.length).2->Q aO H'
theorem qgu(as:ae):∀n:Nat,(byS as n).1.length<=n/\∀xs∈(byS as n).2,xs.length<=n
 | 0=>⟨bX,λxs h=>by cases h⟩
 | n+1=>by
  obtain⟨h1,h2⟩:=qgu as n;unfold byS;cases q:as[n]? with
  | none=>exact⟨by show (byS as n).1.length<=_;omega,λxs hx=>by have:=h2 xs hx;omega⟩
  | some a=>
   show (X4 NX n a.1).1.length<=_/\∀xs∈(X4 (byS as n) n a.1).2,_;unfold X4
   split
   ·exact⟨by show (byS as n).1.length<=_;omega,q25 n _ _ _ _ h2⟩
   ·refine⟨by show ((byS as n).1++[a.1]).length<=_;rw[zD,zT];omega,q25 n _ _ _ _ λxs hx=>?_⟩
    rcases zK.mp hx with y|y
    ·exact h2 xs y
    ·cases zR.mp y;exact zn _
section
variable{K:zC}{G0:Hp}{H0:Fr}{G:Hp}{ω:WSt}{σ:St}{H:Hp}
end
theorem noOw4{d0 d2 d3:dU}:WG [d0.map W.sh,none,d2.map W.sh,d3.map W.sh]:=by
 intro i w h
 match i,h with
 | 0,h=>cases d0 <;> cases h;exact bD
 | 1,h=>cases h
 | 2,h=>cases d2 <;> cases h;exact bD
 | 3,h=>cases d3 <;> cases h;exact bD
 | i+4,h=>simp at h
section
variable{X:Cx}
theorem qhX{ta:TE}{g0:FD}(k2:zAX X.K ta g0){G0:Hp}{H0:Fr}{G:Hp}{ω:WSt}{σ:St}{H:Hp}{p:vF}{ks:af}{ls:cX}{xss:bP}{a n:Int}{Q:VK}(o:Own X.K G0 H0 G ω σ H)(no:Qt)(s1:σ[1]?=some bQ)(s2:σ[2]?=some (some Io))(T:du)(h0:g0 ω=some cB)(hk:La)(hz:∀xs∈xss,xs.length<1000000)(h:∀G' H' ls',Own X.K G0 H0 G' ω σ H'->XL G G'->Tab G' H0 H' p (X4 (ks,xss) n a).1 ls' (X4 (ks,xss) n a).2->Q .non H'):
  tBM X.K "list" WN (tDSd LW ta Nu) (Xm Aq Wh) σ H Q:=by
 have hlen:ks.length=(ls.map V.ref).length:=by rw[zB];exact T.len
 refine⟨aO,s1,p,rfl,.inl ⟨_,.inl T.dict⟩,k2 G0 H0 G ω σ H _ _ o h0 λu G1 H1 x1 y1=>?_⟩;cases (show u=.int a from y1);have o1:=o.keep x1;have T1:=T.keep x1;refine⟨by show 0<=sizeLine;exact zn _,λq hq=>?_⟩;have hpq:p≠q:=λz=>by rw[<- z,T1.dict]at hq;cases hq
 have x2:=Ext.hide o1.gh hq iD;have o2:=o1.keep x2;have T2:=T1.keep x2;have vv:W0 Am oH=Xc ks ce a:=q0r hlen a;refine⟨kvsOf ks ce,Sum.inl a,T2.dict,rfl,by rw[q2u hlen,vh];omega,λv hv=>?_,λhn=>?_⟩
 ·
  have ha:a∈ks:=by
   have:=q0Q (ks:=ks) (xs:=ls.map V.ref) (k:=a) hlen;rw[vv]at hv;rw[hv]at this;exact of_decide_eq_true this.symm
  obtain⟨l,xs,n1,n2,n3,n4,n5,n6⟩:=T2.app n ha;rw[vv,n3]at hv;cases hv;refine⟨.inl ⟨rfl,_,SqL.of n5⟩,.int n,s2,l,_,.int n,rfl,rfl,n5,by rw[zB,vh];have:=hz xs n2;omega,?_⟩;rw[show xs.map V.int++[V.int n]=(xs++[n]).map V.int by rw[zW];rfl];refine h G1 _ ls DU x1.gg ?_;unfold X4;rw[vH ha];exact n6
 ·have ha:a∉ks:=λha=>by
   have:=q0Q (ks:=ks) (xs:=ls.map V.ref) (k:=a) hlen;rw[vv]at hn;rw[hn,vT ha]at this;cases this
  obtain⟨H4,_,e4,T4⟩:=T1.put (l:=q) ha hq o1.gh o1.ext.hh hk;have ep:putK Am (Sum.inl a) OO=kvsOf Qj Su:=by
   rw[q4X hlen];unfold Wd putA;rw[vJ ha,vJ ha,zW];rfl
  rw[ep,<- e4];have gp:=T1.gp;have gq:G1 q=none:=o1.gh.free hq;have h0q:H0 q=none:=o1.ext.hh.free hq;have o4:Own X.K G0 H0 G1 ω σ H4:=by rw[e4];exact o2.free no T1.gp T1.hp
  obtain⟨l,xs,n1,n2,n3,n4,n5,n6⟩:=T4.app n (a:=a) (by simp);have hq4:H4 q=some iD:=by rw[e4,qd (Ne.symm hpq)];exact qe
  have lq:l=q:=by
   have:Xc Qj Su a=some OO:=by
    rw[zW];exact q85 hlen ha
   rw[this]at n3;cases n3;rfl
  subst lq;rw[hq4]at n5;have xe:xs=[]:=by
   cases xs with
   | nil=>rfl
   | cons y ys=>cases n5
  subst xe;refine⟨.inl ⟨rfl,_,SqL.of hq4⟩,.int n,s2,l,_,.int n,rfl,rfl,hq4,by show 0<sizeLine;rw[vh];omega,?_⟩;refine h G1 _ (ls++[l]) (o4.free no gq h0q) x1.gg ?_;unfold X4;rw[vJ ha];exact n6
theorem qhh{x1 x2 x3:Str}{o0 o1 e0 e1 e2:vW}{q1 q2 q3 q4 q5 q6 q9 q12 q15 a1 a2 c1 c2 ep ec tp:Pos}{kx}{g0:FD}(hp:jv)(hc:cV)(hN:X.N.Nodup)(i1:X.N[1]?=some x1)(i2:X.N[2]?=some x2)(i3:X.N[3]?=some x3)(l1:Loc X.env.scope x1)(l2:Kj)(l3:Ki)(f1:X.fn x1=true\/X.env.scope.names.lookup x1=some .local)(f2:jR)(f3:jQ)(hge:MM)(hme:Ec)(h0:adm)(h1:adl)(h2:PE X e1 Aq)(h3:PE X e2 LW)(ha:ada)(hg0:∀(ω:WSt)e,ω[3]?=some n9->g0 ω=some Bi)(hl:X.N.length=4)(m2:M2 X o1 "setdefault" a1 e0 JA c1)(s1:uC n8 (some (.Name x1 q2)) q3.line X.env=pure false)(sE:vK [o0] X.env=[(false,eval o0 X.env)])(ab:uU bW "append" X.env (eval bW X.env)=eval bW X.env)(w1:((vo c2 Mj).all (λx=>!x.1)&&(uO c2 kR).all ie&&decide (([e1]:List vW).length+([]:List uN).length+(if ([]:List uN).isEmpty then 0 else 1)<30))=true)(z1:B8)(t1:kE)(p1:(vo c2 ck).any (·.1)=false)(v1:uC CH none q9.line X.env=pure false)(pg:∀t,PGs X CB t->PG X abd (gTup X.K 2 t))(y1:∀x,vz EK X.env x=pure x){vs:bg}{H:Hp}{Q:VK}{E:XK}(sp:spT X.K vs H Q E):
  ∃t,PSs X [.Assign [.Name x1 q2] n8 q3,.For abd EK [.Expr CH q9] [] q12,.Return (some e2) q15] t /\
   t { nx:=λ_ H'=>Q .non H',rt:=Q } (L2.start X.N vs) H:=by
 obtain⟨ta,k1,k2⟩:=ha;refine⟨_,ql (qL hN i1 l1 q4y s1 f1) (ql (q2y hp hc (qbO hge hme (qj h0 qq sE) sE) (pg _ (q60 (q0S hN i2 l2 f2) (q60 aaP qbB)))
  (qy (q0i (q2m PySem.F.plainAttrs_list PySem.F.slot_list_append PySem.F.type_list_append q0q (qjl h1 k1 Kw m2) (qj h2 qq t1) ab w1 z1 t1 p1) v1)) y1) (qy (q0e h3))),?_⟩
 obtain⟨G,as,sg,rp,hlen,fin⟩:=sp;obtain⟨v0,rfl,A0,vs0,rfl,r1,r2⟩:=rp.one;have hl0:as.length=vs0.length:=by have:=r2.len;rw[zB]at this;exact this
 have hst:L2.start X.N [V.ref A0]=aa1:=by
  unfold L2.start;rw[hl];rfl
 rw[hst];intro p hp0;have no0:WG IL:=noOw4 (d0:=some aU) (d2:=none) (d3:=none);have o0:Own X.K G ou G IL aa1 H:=by
  refine fH
  match i,h with
  | 0,h=>cases h;exact⟨_,rfl,A0,vs0,rfl,r1,r2⟩
  | 1,h=>cases h
  | 2,h=>cases h
  | 3,h=>cases h
  | i+4,h=>simp at h
 have o1:Own X.K G ou G IL [BT,bQ,none,none] iS:=(o0.free no0 (sg.free hp0) hp0).other (i:=1) no0 λw z=>by cases z
 have T0:Tab G H iS p (byS as 0).1 [] (byS as 0).2:=⟨qe,sg.free hp0,hp0,rfl,rfl,λj l xs h=>(by simp at h),λl h=>(by cases h),xQ⟩;refine⟨.ref A0,rfl,A0,vs0,rfl,SqL.of aee,λi m σ' H'=>∃(G':Hp) (ls:cX) (y2 y3:dU),Own X.K G ou G' KC σ' H'/\XL G G'/\σ'[1]?=some bQ/\Tab G' H H' p (byS as i).1 ls (byS as i).2/\i<=as.length/\m=as.length-i,
  ⟨_,G,[],none,none,o1,dC,rfl,T0,pB,rfl⟩,?_⟩
 rintro i m σ' H' ⟨G',ls,y2,y3,o2,g2,s12,T2,hi,rfl⟩;have hq:=o2.gh _ _ (g2 _ _ r1)
 by_cases hlt:i<as.length
 ·refine .inr ⟨⟨vs0,vs0[i]'∅,Jb,zA _⟩,λσ3 H3=>∃(G':Hp) (ls:cX) (y2 y3:dU),Own X.K G ou G' KC σ3 H3/\XL G G'/\σ3[1]?=some bQ/\Tab G' H H3 p (byS as (i+1)).1 ls (byS as (i+1)).2,
   λσ3 H3 ⟨G3,ls3,z2,z3,b1,b2,b3,b4⟩=>⟨as.length-(i+1),∅,G3,ls3,z2,z3,b1,b2,b3,b4,hlt,rfl⟩,λx H3 hy=>?_⟩
  obtain⟨t,w1',ht,rfl,rfl,hy⟩:=hy;have hy:=hy _ Jb;have x3:=Ext.hide o2.gh ht ady;have o3:=o2.keep x3;have T3:=T2.keep x3;refine⟨t,_,rfl,SqT.of qe,rfl,iR,_,rfl,?_⟩;refine⟨w1',_,rfl,rfl,?_⟩;obtain⟨u,e1,e2⟩:=r2.get (i:=i) (d:=Y4 as[i]) (by rw[zP,oZ];rfl);rw[hy]at e1;cases e1;have o4:=(o3.setSh (i:=2) (d:=.int i) (v:=.int i) rfl).setSh (i:=3) (d:=Y4 as[i]) (v:=w1') (e2.mono g2);have o4':Own X.K G ou G' [rn,none,(some (D.int i)).map W.sh,(some (Y4 as[i])).map W.sh] ((σ'.set 2 (some iR)).set 3 (some w1')) (upd H' t ady):=o4;have hl4:σ'.length=4:=o2.len.symm;have bd:=qgu as i;refine qhX k2 o4' (noOw4 (d0:=some aU) (d2:=some _) (d3:=some _)) (by rw[zI (by decide),zI (by decide)];exact s12) (by rw[zI (by decide)];exact yV (by rw[hl4];decide)) T3 (hg0 _ as[i] rfl) ∅ (λxs hx=>by have:=bd.2 xs hx;omega) λG5 H5 ls5 o5 g5 T5=>?_;have eb:byS as (i+1)=X4 (byS as i) i as[i].1:=by
   show (match as[i]? with|some a=>X4 (byS as i) i a.1|none=>byS as i)=_;rw[oZ]
  refine⟨G5,ls5,_,_,o5,g2.trans g5,by rw[zI (by decide),zI (by decide)];exact s12,?_⟩;rw[eb];exact T5
 ·have en:i=as.length:=∅
  subst en;refine .inl ⟨⟨vs0,Jb,Vp⟩,aO,s12,fin G' p ls H' ?_ T2⟩;exact⟨g2,o2.ext.gh,o2.ext.hh,o2.ext.new⟩
end
noncomputable def WQ:List Int->List af->Int->List af
 | k::ks,x::xs,a=>if k=a then x.dropLast::xs else x::WQ ks xs a
 | _,xs,_=>xs
noncomputable def WB(ks:af)(xss:bP)(h:Int):List Int:=(Xc ks xss h).getD []
theorem q7E:∀{ks:af}{ls:cX}{a:Int},ks.length=ls.length->a∈ks->∃(j:Nat) (l:vF),ls[j]?=some l/\Xc ks ce a=some cM/\∀(xss:bP),xss.length=ls.length->∃xs,xss[j]?=some xs/\Xc ks xss a=some xs/\WQ ks xss a=xss.set j xs.dropLast
 | [],_,_,_,h=>by simp at h
 | _::_,[],_,h,_=>by simp at h
 | k::ks,l::ls,a,h,ha=>by
  by_cases z:k=a
  ·refine⟨0,l,rfl,iP,λxss hx=>?_⟩
   cases xss with
   | nil=>simp at hx
   | cons x xs=>exact⟨x,rfl,iP,iP⟩
  ·have ha':a∈ks:=(zG.mp ha).resolve_left λe=>z e.symm
   obtain⟨j,l',e2,e3,e4⟩:=q7E (ks:=ks) (ls:=ls) ⇑h ha';refine⟨j+1,l',e2,?_,λxss hx=>?_⟩
   ·show (if k=a then _ else _)=_
    rw[iw];exact e3
   ·cases xss with
    | nil=>simp at hx
    | cons x xs=>
     obtain⟨y,h1,h2,h3⟩:=e4 xs ⇑hx;refine⟨y,h1,?_,?_⟩
     ·show (if k=a then _ else _)=_
      rw[iw];exact h2
     ·show (if k=a then _ else x::WQ ks xs a)=_
      rw[iw,h3];rfl
theorem Tab.pop{G H0 H:Hp}{p:vF}{ks:af}{ls:cX}{xss:bP}(T:du){a:Int}(ha:a∈ks):
  ∃(l:vF) (xs:af),l∈ls/\Xc ks xss a=some xs/\zAU H p cB DB/\H l=some gC/\Tab G H0 (upd H l (.lst (xs.dropLast.map V.int))) p ks ls (WQ ks xss a):=by
 obtain⟨j,l,e2,e3,e4⟩:=q7E T.len ha;obtain⟨xs,e5,e7,e6⟩:=e4 xss T.len2.symm;have hl:l∈ls:=zg e2;have hlp:p≠l:=λz=>T.pl (z▸hl);have g:=zAU.k (k:=oH) T.dict;rw[q0r (by rw[zB];exact T.len),e3]at g;refine⟨l,xs,hl,e7,g,abY,?_⟩;rw[e6];refine⟨by rw[qd hlp];exact T.dict,T.gp,T.hp,T.len,by rw[yi];exact T.len2,λi m ys h1 h2=>?_,T.gl,T.nd⟩;rcases qf h2 with⟨rfl,_,rfl⟩|⟨ne,h3⟩
 ·rw[e2]at h1
  cases h1;exact qe
 ·have hm:m≠l:=λz=>by
   subst z;obtain⟨i1,i2⟩:=zt.mp h1;obtain⟨j1,j2⟩:=zt.mp e2;exact ne JC
  rw[NG];exact T.lst i m ys h1 h3
theorem Tab.beside{G H0 H:Hp}{p q:vF}{ob:HO}{ks:af}{ls:cX}{xss:bP}(T:du)(h1:q≠p)(h2:q∉ls):Tab G H0 (upd H q ob) p ks ls xss :=
 ⟨by rw[qd (Ne.symm h1)];exact T.dict,T.gp,T.hp,T.len,T.len2,λj l xs e1 e2=>by
  have hn:l≠q:=λz=>h2 (by rw[<- z];exact zg e1);rw[qd hn];exact T.lst j l xs e1 e2,T.gl,T.nd⟩
noncomputable def WK(as:ae)(ks:af):Nat->List af->List Int->List Int->Int->Option af
 | 0,_,_,_,_=>none
 | n+1,xss,T,B,h=>match (WB ks xss h).getLast? with
  | some k=>if 0<=k/\k<as.length/\T.length<1000000 then WK as ks n mK (T++[k]) B (as.getD k.toNat (0,0)).2 else none
  | none=>match T.getLast? with
   | some k=>if 0<=k/\k<as.length/\B.length<1000000 then WK as ks n xss T.dropLast Uc (as.getD k.toNat (0,0)).1 else none
   | none=>some B.reverse
structure RfS (K:zC) (G0:Hp) (H0:Fr) (G:Hp) (s:Int) (as:List (Int×Int)) (p t b:vF) (ks:List Int) (ls:List vF) (xss:List (List Int)) (T B:List Int) (h:Int) (y:Option D) (σ:St) (H:Hp):Prop where
 o:Own K G0 H0 G [some (W.sh (.int s)),↥(.lst (as.map Y4)),none,none,none,↥(.int h),y.map W.sh] σ H
 s2:σ[2]?=some (some (.ref p))
 s3:σ[3]?=some (some (.ref t))
 s4:σ[4]?=some (some (.ref b))
 s5:σ[5]?=some (some (.int h))
 tab:Tab G H0 H p ks ls xss
 ht:H t=some (.lst (T.map V.int))
 gt:G t=none
 ht0:H0 t=none
 hb:H b=some (.lst (B.map V.int))
 gb:G b=none
 hb0:H0 b=none
 tb:t≠b
 tl:t∉ls
 bl:b∉ls
theorem noOw7{d0 d1 d5 d6:dU}:WG [d0.map W.sh,d1.map W.sh,none,none,none,d5.map W.sh,d6.map W.sh]:=by
 intro i w h
 match i,h with
 | 0,h=>cases d0 <;> cases h;exact bD
 | 1,h=>cases d1 <;> cases h;exact bD
 | 2,h=>cases h
 | 3,h=>cases h
 | 4,h=>cases h
 | 5,h=>cases d5 <;> cases h;exact bD
 | 6,h=>cases d6 <;> cases h;exact bD
 | i+7,h=>simp at h
section
variable{K:zC}{G0:Hp}{H0:Fr}{G:Hp}{s:Int}{as:List (Int×Int)}{p t b:vF}{ks:List Int}{ls:List vF}{xss:List (List Int)}{T B:List Int}{h:Int}{y:Option D}{σ:St}{H:Hp}
theorem RfS.no(S:aK):WG [some (W.sh pi),↥aU,none,none,none,↥ib,y.map W.sh] :=
 noOw7 (d0:=some pi) (d1:=some aU) (d5:=some ib) (d6:=y)
theorem RfS.keep{G' H':Hp}(S:aK)(x:AJ):RfS K G0 H0 G' s as p t b ks ls xss T B h y σ H' :=
 ⟨S.o.keep x,S.s2,S.s3,S.s4,S.s5,S.tab.keep x,x.hh _ _ S.ht,x.new t S.gt (by rw[S.ht];exact λz=>by cases z),S.ht0,x.hh _ _ S.hb,x.new b S.gb (by rw[S.hb];exact λz=>by cases z),S.hb0,S.tb,S.tl,S.bl⟩
theorem RfS.tp(S:aK):t≠p/\b≠p:=by
 have h1:=S.ht;have h2:=S.hb;have h3:=S.tab.dict;refine⟨Fq,Fq⟩
 ·rw[z,h3]at h1;cases h1
 ·rw[z,h3]at h2;cases h2
theorem RfS.setT{T':af}(S:aK):RfS K G0 H0 G s as p t b ks ls xss T' B h y σ (upd H t (.lst (T'.map V.int))) :=
 ⟨S.o.free S.no S.gt S.ht0,S.s2,S.s3,S.s4,S.s5,S.tab.beside S.tp.1 S.tl,qe,S.gt,S.ht0,by rw[qd (Ne.symm S.tb)];exact S.hb,S.gb,S.hb0,S.tb,S.tl,S.bl⟩
theorem RfS.setB{B':af}(S:aK):RfS K G0 H0 G s as p t b ks ls xss T B' h y σ (upd H b (.lst (B'.map V.int))) :=
 ⟨S.o.free S.no S.gb S.hb0,S.s2,S.s3,S.s4,S.s5,S.tab.beside S.tp.2 S.bl,by rw[qd S.tb];exact S.ht,S.gt,S.ht0,qe,S.gb,S.hb0,S.tb,S.tl,S.bl⟩
theorem RfS.len(S:aK):σ.length=7:=S.o.len.symm
theorem RfS.setN(S:aK)(k:Int):RfS K G0 H0 G s as p t b ks ls xss T B h eI OZ H :=
 ⟨S.o.setSh (i:=6) (d:=.int k) (v:=.int k) rfl,by rw[zI (by decide)];exact S.s2,by rw[zI (by decide)];exact S.s3,by rw[zI (by decide)];exact S.s4,by rw[zI (by decide)];exact S.s5,S.tab,S.ht,S.gt,S.ht0,S.hb,S.gb,S.hb0,S.tb,S.tl,S.bl⟩
theorem RfS.setH(S:aK)(k:Int):RfS K G0 H0 G s as p t b ks ls xss T B k y (σ.set 5 eI) H :=
 ⟨S.o.setSh (i:=5) (d:=.int k) (v:=.int k) rfl,by rw[zI (by decide)];exact S.s2,by rw[zI (by decide)];exact S.s3,by rw[zI (by decide)];exact S.s4,yV (by rw[S.len];decide),S.tab,S.ht,S.gt,S.ht0,S.hb,S.gb,S.hb0,S.tb,S.tl,S.bl⟩
theorem RfS.popW(S:aK){l:vF}{H':HO}(hl:l∈ls){xss':bP}(T':Tab G H0 (upd H l H') p ks ls xss'):RfS K G0 H0 G s as p t b ks ls xss' T B h y σ (upd H l H') :=
 have n1:t≠l:=λz=>S.tl (by rw[z];exact hl);have n2:b≠l:=λz=>S.bl (by rw[z];exact hl)
 ⟨S.o.free S.no (S.tab.gl l hl).1 (S.tab.gl l hl).2,S.s2,S.s3,S.s4,S.s5,T',by rw[qd n1];exact S.ht,S.gt,S.ht0,by rw[qd n2];exact S.hb,S.gb,S.hb0,S.tb,S.tl,S.bl⟩
theorem qcT(S:aK){Q:j8}(q:∀H',RfS K G0 H0 G s as p t b ks ls xss T B h y σ H'->Q (!(WB ks xss h).isEmpty) H'):
  (zBf Aq (Xk 5) Nu) σ H λx H'=>∃k,TruV K x H' k/\Q k H':=by
 refine⟨.ref p,S.s2,p,rfl,.inl ⟨_,.inl S.tab.dict⟩,.int h,S.s5,by show 0<=sizeLine;exact zn _,λr hr=>?_⟩;have S1:=S.keep (Ext.hide S.o.gh hr iD);have hlen:ks.length=(ls.map V.ref).length:=by rw[zB];exact S.tab.len
 have g:=zAU.k (k:=adi) S1.tab.dict;rw[q0r hlen]at g;refine⟨_,g,?_⟩
 by_cases hk:h∈ks
 ·obtain⟨l,xs,e1,e2,e3,e4,_⟩:=S1.tab.pop hk
  have ev:Xc ks ce h=some cM:=by
   obtain⟨j,l',f2,f3,f4⟩:=q7E S.tab.len hk;obtain⟨xs',f5,f7,f6⟩:=f4 xss S.tab.len2.symm;have g2:=zAU.k (k:=adi) S1.tab.dict;rw[q0r hlen,f3]at g2;rcases e3 with⟨kvs,k,d1,d2,d3⟩|⟨kvs,k,b,d1,d2,_⟩
   ·rcases d1 with d1|⟨ob,d1⟩
    ·rw[S1.tab.dict]at d1
     cases d1;cases k with
     | inl i=>cases d2;rw[q0r hlen]at d3;exact d3.symm
     | inr x=>cases d2
    ·rw[S1.tab.dict]at d1;cases d1
   ·cases d2
  rw[ev];refine⟨!xs.isEmpty,?_,?_⟩
  ·refine .inl ⟨_,SqL.of e4,?_⟩
   rw[List.isEmpty_map]
  ·have:WB ks xss h=xs:=by unfold WB;rw[e2];rfl
   rw[<- this];exact q _ S1
 ·have ev:Xc ks ce h=none:=by
   have:=q0Q (ks:=ks) (xs:=ls.map V.ref) (k:=h) hlen;rw[vX hk]at this;cases z:Xc ks ce h with
   | none=>rfl
   | some v=>rw[z]at this;cases this
  have ev2:WB ks xss h=[]:=by
   have:=q0Q (ks:=ks) (xs:=xss) (k:=h) (by rw[S.tab.len];exact S.tab.len2);rw[vX hk]at this;unfold WB;cases z:Xc ks xss h with
   | none=>rfl
   | some v=>rw[z]at this;cases this
  rw[ev];refine⟨false,?_,by have:=q _ S1;rw[ev2]at this;exact this⟩;exact .inl ⟨_,SqL.of qe,rfl⟩
end
noncomputable def trT(K:zC)(t:TE):TT:=λσ H Q=>t σ H λx H'=>∃k,TruV K x H' k/\Q k H'
noncomputable def zCt:TE:=zBf Aq (Xk 5) Nu
noncomputable def zBs(K:zC)(td:TE):TS:=zAv (We (tBM0 K "list" rPop (zC8 Aq (Xk 5))) (Xn 6)) (zAv CO FU)
noncomputable def zBk(K:zC)(td:TE):TS:=zAv (We (tBM0 K "list" rPop LV) (Xn 6)) (zAv CN FU)
section
variable{K:zC}{G0:Hp}{H0:Fr}{G:Hp}{s:Int}{as:List (Int×Int)}{p t b:vF}{ks:List Int}{ls:List vF}{xss:List (List Int)}{T B:List Int}{h:Int}{y:Option D}{σ:St}{H:Hp}
theorem q7K{xs:af}{k:Int}(e:xs.getLast?=some k):(xs.map V.int)[(xs.map V.int).length-1]?=some md/\(xs.map V.int).dropLast=xs.dropLast.map V.int:=by
 rw[List.getLast?_eq_getElem?]at e;refine⟨by rw[zB,zP,e];rfl,by rw[List.map_dropLast]⟩
theorem RfS.s6(S:aK)(k:Int):(σ.set 6 eI)[6]?=some eI:=yV (by rw[S.len];decide)
theorem qh9{td:TE}{f:FD}(hd:zAX K td f)(hf:∀(ω:WSt)(k:Int),ω[1]?=some ↥aU->ω[6]?=some ↥md->0<=k->k<as.length->f ω=some kG)(S:aK){k:Int}(e:(WB ks xss h).getLast?=some k)(k0:0<=k)(k1:Hh)(hT:T.length<1000000){D0:Ends}(q:∀G' σ' H',RfS K G0 H0 G' s as p t b ks ls mK (T++[k]) B (as.getD k.toNat (0,0)).2 eI σ' H'->D0.nx σ' H'):zBs K td D0 σ H:=by
 have hk:h∈ks:=by
  have:=q0Q (ks:=ks) (xs:=xss) (k:=h) (by rw[S.tab.len];exact S.tab.len2);unfold WB at e;cases z:Xc ks xss h with
  | none=>rw[z]at e;cases e
  | some v=>rw[z]at this;exact of_decide_eq_true this.symm
 obtain⟨l,xs,e1,e2,e3,e4,e5⟩:=S.tab.pop hk;have ex:xs.getLast?=some k:=by unfold WB at e;rw[e2]at e;exact e
 obtain⟨m1,m2⟩:=q7K ex;refine⟨aO,S.s2,ib,S.s5,p,cM,rfl,e3,.inl ⟨rfl,_,SqL.of e4⟩,l,_,md,rfl,rfl,e4,m1,?_⟩;rw[m2];have S1:=(S.popW e1 e5).setN k;show zAv CO FU D0 OZ _;refine⟨.ref t,S1.s3,.inl ⟨rfl,_,SqL.of S1.ht⟩,.int k,S.s6 k,t,_,.int k,rfl,rfl,S1.ht,by rw[zB,vh];omega,?_⟩;rw[show T.map V.int++[V.int k]=(T++[k]).map V.int by rw[zW];rfl];have S2:=S1.setT (T':=T++[k]);show td _ _ _;refine hd G0 H0 G _ _ _ _ _ S2.o Ra λu G1 H1 x1 y1=>?_;cases (show u=.int _ from y1);exact q G1 _ H1 Sz
theorem qhw{td:TE}{f:FD}(hd:zAX K td f)(hf:∀(ω:WSt)(k:Int),ω[1]?=some ↥aU->ω[6]?=some ↥md->0<=k->k<as.length->f ω=some kH)(S:aK){k:Int}(e:T.getLast?=some k)(k0:0<=k)(k1:Hh)(hB:B.length<1000000){D0:Ends}(q:∀G' σ' H',RfS K G0 H0 G' s as p t b ks ls xss T.dropLast Uc (as.getD k.toNat (0,0)).1 eI σ' H'->D0.nx σ' H'):zBk K td D0 σ H:=by
 obtain⟨m1,m2⟩:=q7K e;refine⟨ku,S.s3,.inl ⟨rfl,_,SqL.of S.ht⟩,t,_,md,rfl,rfl,S.ht,m1,?_⟩;rw[m2];have S1:=(S.setT (T':=T.dropLast)).setN k;show zAv CN FU D0 OZ _;refine⟨.ref b,S1.s4,.inl ⟨rfl,_,SqL.of S1.hb⟩,.int k,S.s6 k,b,_,.int k,rfl,rfl,S1.hb,by rw[zB,vh];omega,?_⟩;rw[show B.map V.int++[V.int k]=(B++[k]).map V.int by rw[zW];rfl];have S2:=S1.setB (B':=B++[k]);show td _ _ _;refine hd G0 H0 G _ _ _ _ _ S2.o Ra λu G1 H1 x1 y1=>?_;cases (show u=.int _ from y1);exact q G1 _ H1 Sz
end
noncomputable def tRF(K:zC)(E:XK)(td1 td0:TE):TS :=
 zAv (We (zAa (spT K) [] E (Xm LW Wh)) (Xn 2)) (zAv (We Nu (Xn 3)) (zAv (We Nu (Xn 4)) (zAv (We LX (Xn 5))
  (zAv (zB2 (tOr (trT K LV) SY) (zCh SY (zBs K td1) (zBk K td0))) (zCC (tCB rLR (Xm (Xk 4) Wh)))))))
noncomputable def W9(s:Int)(as:ae):Option af:=if as.length<=9000 then WK as (byS as as.length).1 100000 (byS as as.length).2 [] [] s else none
noncomputable def mRF:List D->Option O
 | [.int s,.lst ds]=>(pairsOf ds).bind λas=>(W9 s as).map λrow=>.fr Mp
 | _=>none
theorem qjR{K:zC}{E E':XK}{td1 td0:TE}{f1 f0:FD}(h1:zAX K td1 f1)(h0:zAX K td0 f0)(hf1:∀(as:ae)(ω:WSt)(k:Int),ω[1]?=some ↥aU->ω[6]?=some ↥md->0<=k->k<as.length->f1 ω=some kG)(hf0:∀(as:ae)(ω:WSt)(k:Int),ω[1]?=some ↥aU->ω[6]?=some ↥md->0<=k->k<as.length->f0 ω=some kH){N:cg}(hN:N.length=7){vs:bg}{H:Hp}{Q:VK}(sp:spD K 2 mRF vs H Q E'):tRF K E td1 td0 { nx:=λ_ H'=>Q .non H',rt:=Q } eK H:=by
 obtain⟨G,ds,r,e,hl,sg,rp,fin⟩:=sp
 match ds,e with
 | [.int s,.lst ds],e=>
  obtain⟨as,ea,e⟩:=bnd e;obtain⟨row,er,e⟩:=mpd e;subst e;have hds:=q4g ea;subst hds;clear ea;unfold W9 at er
  by_cases hlen:as.length<=9000
  case neg=>rw[vJ hlen]at er;cases er
  rw[vH hlen]at er;obtain⟨v0,v1,rfl,r0,r1⟩:=rp.two;cases (show v0=.int s from r0);have hst:L2.start N [V.int s,v1]=EW:=by
   unfold L2.start;rw[hN];rfl
  rw[hst];have no0:WG CU:=noOw7 (d0:=some pi) (d1:=some aU) (d5:=none) (d6:=none);have o0:Own K G ou G CU EW H:=by
   refine fH
   match i,h with
   | 0,h=>cases h;exact⟨_,rfl,rfl⟩
   | 1,h=>cases h;exact OV
   | 2,h=>cases h
   | 3,h=>cases h
   | 4,h=>cases h
   | 5,h=>cases h
   | 6,h=>cases h
   | i+7,h=>simp at h
  refine⟨v1,rfl,G,as,sg,XB.cons r1 XB.nil,hlen,λG1 p ls H1 x1 T1=>?_⟩;have o1:=(o0.keep x1).other (i:=2) (v:=some aO) no0 λw z=>by cases z
  refine⟨by show 0<=sizeLine;exact zn _,λt ht=>?_⟩;have x2:=Ext.hide o1.gh ht iD;have o2:=(o1.keep x2).other (i:=3) (v:=some ku) no0 λw z=>by cases z
  have T2:=T1.keep x2;refine⟨by show 0<=sizeLine;exact zn _,λb hb=>?_⟩;have x3:=Ext.hide o2.gh hb iD;have o3:=(o2.keep x3).other (i:=4) (v:=some DE) no0 λw z=>by cases z
  have T3:=T2.keep x3;have tb:t≠b:=λz=>by rw[<- z,qe]at hb;cases hb
  have tl:t∉ls:=λz=>by
   obtain⟨xs,w⟩:=T1.inn z;rw[ht]at w;cases w
  have bl:b∉ls:=λz=>by
   obtain⟨xs,w⟩:=T2.inn z;rw[hb]at w;cases w
  have o4:=o3.setSh (i:=5) (d:=.int s) (v:=.int s) rfl;have S0:RfS K G ou G1 s as p t b (byS as as.length).1 ls (byS as as.length).2 [] [] s none [some pi,LH,bQ,some ku,some DE,some pi,none] (upd (upd H1 t iD) b iD) :=
   ⟨o4,rfl,rfl,rfl,rfl,T3,by rw[qd tb];exact qe,o1.gh.free ht,o1.ext.hh.free ht,qe,o2.gh.free hb,o2.ext.hh.free hb,tb,tl,bl⟩
  refine⟨pi,rfl,?_⟩;generalize (byS as as.length).1=ks at S0 er;generalize (byS as as.length).2=xss at S0 er;refine⟨λm σ' H'=>∃G' xss T B h y,RfS K G ou G' s as p t b ks ls xss T B h y σ' H'/\WK as ks m xss T B h=some row,⟨100000,G1,xss,[],[],s,none,S0,er⟩,?_⟩;rintro m σ' H' ⟨G',xss,T,B,h,y,S,run⟩;cases m with
  | zero=>cases run
  | succ n=>
   have body:∀Hx,RfS K G ou G' s as p t b ks ls xss T B h y σ' Hx->(T≠[]\/WB ks xss h≠[])->∀D0:Ends,∃NN:St->Hp->Prop,(∀σ2 H2,NN σ2 H2->∃m',m'<n+1/\∃G' xss T B h y,RfS K G ou G' s as p t b ks ls xss T B h y σ2 H2/\WK as ks m' xss T B h=some row)/\zCh SY (zBs K td1) (zBk K td0) { D0 with nx:=NN,ct:=NN,bk:=D0.nx } σ' Hx:=by
    intro Hx Sx hne D0;refine⟨λσ2 H2=>∃G' xss T B h y,RfS K G ou G' s as p t b ks ls xss T B h y σ2 H2/\WK as ks n xss T B h=some row,λσ2 H2 z=>⟨n,yj n,z⟩,?_⟩;refine qcT Sx λHy Sy=>?_;unfold WK at run;cases eg:(WB ks xss h).getLast? with
    | some k=>
     rw[eg]at run;have run:(if 0<=k/\k<as.length/\T.length<1000000 then WK as ks n mK (T++[k]) B (as.getD k.toNat (0,0)).2 else none)=some row:=run;have hne:(WB ks xss h).isEmpty=false:=by
      cases z:WB ks xss h with
      | nil=>rw[z]at eg;cases eg
      | cons a r=>rfl
     rw[hne];show (if (!false)=true then _ else _);rw[vH (show (!false)=true from rfl)]
     by_cases c:0<=k/\k<as.length/\T.length<1000000
     ·rw[vH c]at run
      exact qh9 h1 (hf1 as) Sy eg c.1 c.2.1 c.2.2 λG2 σ2 H2 S2=>P6
     ·rw[vJ c]at run;cases run
    | none=>
     rw[eg]at run;have hem:WB ks xss h=[]:=wP.mp eg;rw[hem];show (if (!true)=true then _ else _);rw[vJ (by decide)];cases et:T.getLast? with
     | none=>exact vP (wP.mp et) (hne.resolve_right λz=>z hem)
     | some k=>
      have run:(match T.getLast? with
       | some k=>if 0<=k/\k<as.length/\B.length<1000000 then WK as ks n xss T.dropLast Uc (as.getD k.toNat (0,0)).1 else none
       | none=>some B.reverse)=some row:=run
      rw[et]at run;have run:(if 0<=k/\k<as.length/\B.length<1000000 then WK as ks n xss T.dropLast Uc (as.getD k.toNat (0,0)).1 else none)=some row:=run
      by_cases c:0<=k/\k<as.length/\B.length<1000000
      ·rw[vH c]at run
       exact qhw h0 (hf0 as) Sy et c.1 c.2.1 c.2.2 λG2 σ2 H2 S2=>P6
      ·rw[vJ c]at run;cases run
   refine⟨ku,S.s3,!(T.map V.int).isEmpty,.inl ⟨_,SqL.of S.ht,rfl⟩,?_⟩;cases T with
   | cons a r=>
    show (if (!false)=true then _ else _);rw[vH (show (!false)=true from rfl)];show (if true=true then _ else _);rw[lg];exact body H' S (.inl (by simp)) _
   | nil=>
    show (if (!true)=true then _ else _);rw[vJ (by decide)];refine qcT S λHx Sx=>?_;cases eg:WB ks xss h with
    | cons a r=>
     show (if (!false)=true then _ else _);rw[vH (show (!false)=true from rfl)];exact body Hx Sx (.inr (by rw[eg];simp)) _
    | nil=>
     show (if (!true)=true then _ else _);rw[vJ (by decide)];have rw0:row=B.reverse:=by
      unfold WK at run;rw[eg]at run;have run:some B.reverse=some row:=run;exact(zr run).symm
     subst rw0;refine⟨DE,Sx.s4,b,_,rfl,Sx.hb,λSa hS=>?_⟩;have x9:=Ext.hide Sx.o.gh hS (.lst (B.map V.int).reverse);have o9:=Sx.o.keep x9;refine fin (.ref Sa) G' _ o9.ext ⟨Sa,_,rfl,Sx.o.ext.hh.free hS,Sx.o.gh.free hS,qe,?_⟩;rw[<- YX];exact XB.ints _
theorem qiO{ω:WSt}{e:bo}(h:ω[3]?=some ↥(Y4 e)):dOf N8 ω=some Bi:=by
 unfold dOf Y9 vOf Y1 fC;rw[h];rfl
theorem q8A{as:ae}{k:Int}(k0:0<=k)(k1:Hh):atI FN k=some (Y4 (as.getD k.toNat (0,0))):=by
 rw[q1N k0 (by rw[zB];exact k1)];have hk:k.toNat<as.length:=∅
 rw[wN,zX,zA hk];rfl
theorem qjq{as:ae}{ω:WSt}{k:Int}(h1:ω[1]?=some ↥aU)(h6:ω[6]?=some ↥md)(k0:0<=k)(k1:Hh):
  dOf aeu ω=some kG:=by
 have e:=q8A (as:=as) k0 k1;show dR (op2 oIx (vR (op2 oIx (vR (zCm ω[1]?)) (vR (zCm ω[6]?)))) (some pK))=_;rw[h1,h6];show dR (op2 oIx Nz (some pK))=_;rw[e];rfl
theorem qiN{as:ae}{ω:WSt}{k:Int}(h1:ω[1]?=some ↥aU)(h6:ω[6]?=some ↥md)(k0:0<=k)(k1:Hh):
  dOf aev ω=some kH:=by
 have e:=q8A (as:=as) k0 k1;show dR (op2 oIx (vR (op2 oIx (vR (zCm ω[1]?)) (vR (zCm ω[6]?)))) (some Rx))=_;rw[h1,h6];show dR (op2 oIx Nz (some Rx))=_;rw[e];rfl
theorem qju{X:Cx}{e1 e0:vW}{E E':XK}{f1 f0:FD}(h1:XD X e1 f1)(h0:XD X e0 f0)(hf1:∀(as:ae)(ω:WSt)(k:Int),ω[1]?=some ↥aU->ω[6]?=some ↥md->0<=k->k<as.length->f1 ω=some kG)(hf0:∀(as:ae)(ω:WSt)(k:Int),ω[1]?=some ↥aU->ω[6]?=some ↥md->0<=k->k<as.length->f0 ω=some kH){N:cg}(hN:N.length=7){vs:bg}{H:Hp}{Q:VK}(sp:spD X.K 2 mRF vs H Q E'){sts:pz}(hb:∀{td1 td0:TE},PE X e1 td1->PE X e0 td0->PSs X sts (tRF X.K E td1 td0)):
  ∃t,PSs X sts t/\t { nx:=λ_ H'=>Q .non H',rt:=Q } eK H:=by
 obtain⟨td1,p1,q1⟩:=h1;obtain⟨td0,p0,q0⟩:=h0;exact⟨_,hb p1 p0,qjR q1 q0 hf1 hf0 hN sp⟩
abbrev Cal(P:vU)(w:vY)(K:zC)(mg:bG)(base:vk)(k:Nat)(f:vF)(d:vO)(x:Str)(ps:cg)(n:Nat)(m:ci):Prop :=
 FnOk P w K mg base CX0 k f d ps (spD K n m)/\mg x=some iq/\xl K iq=true/\Binds K d ps []
section
variable{X:Cx}{x:Str}{pos:Pos}
theorem xc{e:vW}{es:jw}{k k0:Nat}{f:vF}{fd:vO}{ps:cg}{m:ci}{p:Pos}{g:FA}(c:Cal X.prog X.w X.K X.mg X.base k f fd x ps (e::es).length m)(hr:aaj)(ha:XA X kw g)(hk:k<=k0:=by decide)(hg:Bz:=by exact rfl)(hdb:aM:=by decide)(he:aS:=by rfl)(hpl:(vo pos iV).any (·.1)=false:=by rfl):
  XE X cY (Y8 m g):=zCv c.1 (hr.mono hk) hg c.2.1 c.2.2.1 c.2.2.2 zA1 ha hdb he hpl
theorem vE(i:Nat)(hN:X.N[i]?=some x:=by rfl)(hv:p7:=by first|exact Or.inl rfl|exact Or.inr aC|exact Or.inr Kh)(hd:aM:=by decide)(hcd:gP:=by decide):XE X jd (Y1 i):=zBp i G8
theorem vV(i:Nat)(hN:X.N[i]?=some x:=by rfl)(hv:p7:=by first|exact Or.inl rfl|exact Or.inr aC|exact Or.inr Kh)(hd:aM:=by decide)(hcd:gP:=by decide):XV X jd (vOf (Y1 i)):=XE.toV (zBp i G8)
theorem vD(i:Nat)(hN:X.N[i]?=some x:=by rfl)(hv:p7:=by first|exact Or.inl rfl|exact Or.inr aC|exact Or.inr Kh)(hd:aM:=by decide)(hcd:gP:=by decide):XD X jd (dOf (Y1 i)):=XE.toD (zBp i G8)
end
def Fd(K:zC)(x:Str)(st:vm)(f:vF):Prop:=yd K vZ x=some (some iq)/\∃fd,Fun K x x st f fd
section
variable{P:vU}{w:vY}{K:zC}{mg:Str->Option vB}{base h:vk}{x:Str}{st:vm}{f:vF}{fd:vO}
theorem qjU{oc:vB}{od an:Jd}{osl:aau}{kV doc pm cdv ct:vB}(a:yd K vZ x=some (some iq))(l:K.lookup f=some ⟨oc,od,.func rS,osl⟩)(c:w9 K cdv x=true)(k:xl K iq=true):Fd K x st f:=⟨a,_,qjx l c k⟩
theorem us_1{us:bu}(h:us.length=1):∃a,us=[a]:=by match us,h with|[_],_=>exact bD
theorem us_2{us:bu}(h:us.length=2):∃a b,us=Bb:=by match us,h with|[_,_],_=>exact lw
theorem us_3{us:bu}(h:us.length=3):∃a b c,us=[a,b,c]:=by match us,h with|[_,_,_],_=>exact AX
theorem us_4{us:bu}(h:us.length=4):∃a b c d,us=R5:=by match us,h with|[_,_,_,_],_=>exact⟨_,_,_,_,rfl⟩
theorem us_5{us:bu}(h:us.length=5):∃a b c d e,us=[a,b,c,d,e]:=by match us,h with|[_,_,_,_,_],_=>exact⟨_,_,_,_,_,rfl⟩
theorem qi(P:vU)(w:vY)(base:vk)(X:K.In h)(G:h.Ns vZ mg){x:Str}{st:vm}{f:vF}{fd:vO}{k n:Nat}{ps:cg}{m:ci}(D:Fd K x st f)(F:Fun K x x st f fd)(o:FnOk P w K mg base CX0 k f fd ps (spD K n m))(b:∀(kV doc pm:vB)(an:Jd)(cdv ct:vB)(us:bu),us.length=ps.length->bindArgs rS Da=pure FF:=by intro _ _ _ _ _ _ us hl;first|(obtain⟨_,rfl⟩:=us_1 hl;rfl)|(obtain⟨_,_,rfl⟩:=us_2 hl;rfl)|(obtain⟨_,_,_,rfl⟩:=us_3 hl;rfl)|(obtain⟨_,_,_,_,rfl⟩:=us_4 hl;rfl)|(obtain⟨_,_,_,_,_,rfl⟩:=us_5 hl;rfl)):Cal P w K mg base k f fd x ps n m :=
 ⟨o,xg X G D.1,F.kp,F.binds b⟩
end
section
variable{X:Cx}{o e k:vW}{pos pos' apos cpos:Pos}{i:Nat}{fd fk fv:FD}
end
noncomputable abbrev FW:=WSt->Option (List W)
section
variable{X:Cx}{e:vW}{es:List vW}{is:List (Option Nat)}{g:FW}
end
open Classical in
noncomputable def zAp(P:VB)(H:Hp):Hp:=λb=>if P b then none else H b
theorem qbd{P:VB}{H:Hp}{b:vF}(h:P b):zAp P H b=none:=vH h
theorem q4q{P:VB}{H:Hp}{b:vF}(h:¬P b):zAp P H b=H b:=vJ h
theorem qcO{P:VB}{H:Hp}:XL (zAp P H) H:=λb u z=>by
 by_cases h:P b
 ·rw[qbd h]at z;cases z
 ·rw[q4q h]at z;exact z
noncomputable def zCp(n:Nat)(ws:List W):WSt:=ws.map some++zk (n-ws.length) none
section
variable{K:zC}{G0:Hp}{F:Fr}{G G' H H':Hp}{ω:WSt}{σ:St}{I:Nat->Option (List D)}{P:vF->Prop}
end
section
variable{X:Cx}{e:vW}{es:List vW}{is:List (Option Nat)}{g:FW}{m:List W->Option (D×WSt)}{k k0:Nat}{f:vF}{fd:vO}{ps:List Str}{x:Str}{p pos pos' spos:Pos}
end
section
variable{i k:Nat}{ω r:WSt}{d:D}{ds es:List D}{fd fk fv:FD}{g:FW}{ws:List W}{is:List (Option Nat)}{m:List W->Option (D×WSt)}{w:Option W}{I:Nat->Option (List D)}{b:FS}{n:Nat}
theorem qbz:zCm (some Ev)=some GD:=rfl
end
end Hk
namespace Hk
open PySem PyProof.Rows
noncomputable def kcl(c:Int)(l:dw):List vS:=l.filter λp=>sK p.1==c
def zBJ(l m:dw):Prop:=∀c,kcl c l=kcl c m
theorem q0P(c:Int)(a b:dw):kcl c LP=kcl c a++kcl c b:=ZC ..
theorem q5A(c:Int)(a:dw):kcl c a.reverse=(kcl c a).reverse:=List.filter_reverse ..
theorem q75{c:Int}{l:dw}(h:∀p∈l,sK p.1≠c):kcl c l=[]:=wc.mpr λp hp=>by simpa using h p hp
theorem q46{xs:bj}{i:Nat}{p:vS}(h:xs.toList[i]?=some p):K xs i=sK p.1:=by
 unfold K;rw[<- zd,h]
theorem qbm{α:Type}{l:bH}{i j:Nat}{p:α}(h:p∈(l.take j).drop i):∃n,i<=n/\n<j/\l[n]?=some p:=by
 obtain⟨m,hm⟩:=xK.mp h;rw[xn,xo]at hm
 split at hm
 ·exact⟨i+m,∅,by assumption,hm⟩
 ·cases hm
theorem cut3{α:Type}(l:bH){i j:Nat}(h:i<=j):l.take i++((l.take j).drop i++l.drop j)=l:=by
 have:l.take i=(l.take j).take i:=by rw[wd,wx h]
 rw[this,<- zM,yF,yF]
theorem q3N{xs:bj}{i j:Nat}(hij:i<=j)(hj:j<=xs.size):(mirror xs i j ((j-i)/2)).toList=xs.toList.take i++(((xs.toList.take j).drop i).reverse++xs.toList.drop j):=by
 apply yt;intro k;rw[zd,getElem?_mirror_all hj];have hl:xs.toList.length=xs.size:=zO;rcases zz k i with h1|h1
 ·rw[iW,ze (by rw[zf];omega),xo,Qc,zd]
 ·rw[zb (by rw[zf];omega),zf,show min i xs.toList.length=i by omega]
  have ld:((xs.toList.take j).drop i).length=j-i:=by rw[yO,zf];omega
  rcases zz k j with h2|h2
  ·rw[vH ⟨h1,h2⟩,ze (by rw[xX,ld];omega),List.getElem?_reverse (by rw[ld];omega),ld,xn,xo,lf,zd]
   congr 1;omega
  ·rw[iW,zb (by rw[xX,ld];omega),xX,ld,xn,zd]
   congr 1;omega
theorem qai{xs:bj}{j l:Nat}(hs:j<xs.size)(hl:l<=j):(bubble xs j (j-l)).toList=xs.toList.take l++(xs[j]::BN):=by
 apply yt;intro k;rw[zd,getElem?_bubble hs _ ∅,show j-(j-l)=l by omega];have hn:xs.toList.length=xs.size:=zO;rcases zz k l with h1|h1
 ·rw[iW,iW,ze (by rw[zf];omega),xo,Qc,zd]
 ·rw[zb (by rw[zf];omega),zf,show min l xs.toList.length=l by omega]
  rcases Z8 h1 with h2|h2
  ·subst h2
   rw[lg,wY,wC,V1]
  ·rw[iW]
   obtain⟨m,hm⟩:∃m,k-l=m+1:=⟨k-l-1,∅⟩;rw[hm,xV];have ld:((xs.toList.take j).drop l).length=j-l:=by rw[yO,zf];omega
   rcases zz m (j-l)with h3|h3
   ·rw[lf,ze (by rw[ld];exact h3),xn,xo,lf,zd]
    congr 1;omega
   ·rw[iW,zb (by rw[ld];exact h3),ld,xn,zd]
    congr 1;omega
theorem qaE{xs:bj}{j l:Nat}(hs:j<xs.size)(hl:l<=j)(h:∀i,l<=i->i<j->K xs j<K xs i):zBJ (bubble xs j (j-l)).toList xs.toList:=by
 intro c;have hx:xs.toList[j]?=some xs[j]:=by rw[zd,V1]
 have e:xs.toList=xs.toList.take l++((xs.toList.take j).drop l++(xs[j]::xs.toList.drop (j+1))):=by
  have d:xs.toList.drop j=xs[j]::xs.toList.drop (j+1):=by
   rw[xI (by rw[zO];exact hs),Array.getElem_toList]
  rw[<- d,cut3 _ hl]
 rw[qai hs hl,q0P];have e2:kcl c xs.toList=kcl c (xs.toList.take l)++(kcl c Nl++kcl c (xs[j]::xs.toList.drop (j+1))):=by
  conv=>lhs;rw[e]
  rw[q0P,q0P]
 rw[e2]
 congr 1
 show kcl c ([xs[j]]++BN)=_++kcl c ([xs[j]]++xs.toList.drop (j+1));rw[q0P,q0P,q0P]
 by_cases z:sK xs[j].1=c
 ·have no:kcl c Nl=[]:=q75 λp hp=>by
   obtain⟨n,n1,n2,n3⟩:=qbm hp;have k1:=q46 n3;have k2:=q46 hx;have:=h n n1 n2;omega
  rw[no,yT,yT]
 ·have no:kcl c [xs[j]]=[]:=q75 λp hp=>by cases zR.mp hp;exact z
  rw[no,yT,yT]
structure DInv (a₀:Array vS) (xs:Array vS) (x neq:Nat):Prop where
 le:neq+1<=x
 ni:rM xs x
 eq:∀i,x-(neq+1)<=i->i<x->K xs i=K xs (x-1)
 lt:0<x-(neq+1)->K xs (x-(neq+1))<K xs (x-(neq+1)-1)
 cl:∀c,kcl c (xs.toList.take (x-(neq+1)))=(kcl c (a₀.toList.take (x-(neq+1)))).reverse
 dr:xs.toList.drop (x-(neq+1))=a₀.toList.drop (x-(neq+1))
theorem DInv.flip{a₀ xs:bj}{x neq:Nat}(D:DInv a₀ xs x neq)(hx:x<=xs.size)(hz:xs.size=a₀.size):
  (∀c,kcl c ((mirror xs RJ x ((x-RJ)/2)).toList.take x)=(kcl c Tx).reverse)/\(mirror xs RJ x ((x-RJ)/2)).toList.drop x=a₀.toList.drop x:=by
 have hb:x-rX<=x:=Nat.sub_le _ _;have hle:=D.le;have hbx:x-rX<x:=∅
 have lt:=D.lt;have eq:=D.eq;have ni:=D.ni;have cl:=D.cl;have dr:=D.dr;generalize x-rX=b at hb hbx lt eq cl dr;have hn:xs.toList.length=xs.size:=zO;have hn0:a₀.toList.length=a₀.size:=zO;have run:(xs.toList.take x).drop b=(a₀.toList.take x).drop b:=by
  rw[ZD,ZD,dr]
 have lrun:((xs.toList.take x).drop b).length=x-b:=by rw[yO,zf];omega
 rw[q3N hb hx];have l1:(xs.toList.take b++((xs.toList.take x).drop b).reverse).length=x:=by
  rw[zD,xX,lrun,zf];omega
 rw[<- zM];refine⟨λc=>?_,?_⟩
 ·rw[Yf l1,q0P,q5A,run]
  have e0:a₀.toList.take x=a₀.toList.take b++(a₀.toList.take x).drop b:=by
   have:a₀.toList.take b=(a₀.toList.take x).take b:=by rw[wd,wx hb]
   rw[this,yF]
  have e9:kcl c Tx=kcl c (a₀.toList.take b)++kcl c L9:=(uB (kcl c) e0).trans (q0P c _ _);rw[e9,xY,<- cl c]
  by_cases z:c=K xs (x-1)
  ·have no:kcl c (xs.toList.take b)=[]:=q75 λp hp=>by
    obtain⟨m,hm⟩:=xK.mp hp;rw[xo]at hm
    split at hm
    ·rename_i hmb
     have k1:=q46 hm;have k2:=lt ∅;have k3:=ni m (b-1) ∅ ∅;have k4:K xs b=K xs (x-1):=eq b bX hbx;omega
    ·cases hm
   rw[no,yT,zx]
  ·have no:kcl c L9=[]:=q75 λp hp=>by
    rw[<- run]at hp;obtain⟨n,n1,n2,n3⟩:=qbm hp;have k1:=q46 n3;have k2:=eq n n1 n2;intro y;exact z ∅
   rw[no,List.reverse_nil,zx,yT]
 ·rw[Yg l1]
  have e1:xs.toList.drop x=(xs.toList.drop b).drop (x-b):=by rw[ZE];congr 1;omega
  have e2:a₀.toList.drop x=(a₀.toList.drop b).drop (x-b):=by rw[ZE];congr 1;omega
  rw[e1,e2,dr]
section
variable{prog:vU}{w:vY}{A:vg}{E:vB->vC->Prop}{s:vC}{a₀:Array vS}
theorem q5D{xs ys:bj}{x:Nat}(h:rM xs x)(e:∀k,K ys k=K xs k)(hl:x=0\/K xs x<=K xs (x-1)):rM ys (x+1):=by
 intro i j hij hj;rw[e,e];rcases zz j x with y|y
 ·exact h i j hij y
 ·obtain rfl:j=x:=∅
  rcases Z8 hij with z|z
  ·rw[z];exact yE _
  ·rcases hl with hl|hl
   ·omega
   ·exact ye hl (h i (j-1) ∅ ∅)
theorem qal{st:ve}{n nrem:Nat}{Q:DescSt->ve->Prop}(h0:mw)(hn:Fi)(h1:1<=n)(hnn:n<=nrem)(hB:Ca)(hD:DInv a₀ eR n 0)(h:∀m neq st',tJ a₀ st'->n<=m->m<=nrem->DInv a₀ bR m neq->Q (none,m,neq) st'):wpS ap A E s (descLoop n nrem) Q st:=by
 unfold descLoop;refine vj (I:=λx c st'=>∃neq,c=(none,x,neq)/\tJ a₀ st'/\DInv a₀ bR x neq) ?turn ?done ⟨0,rfl,hB,hD⟩
 case done=>
  rintro c st' ⟨neq,rfl,b1,b2⟩;rw[Nat.max_eq_right hnn]at b2 ⊢;exact h nrem neq st' b1 hnn bX b2
 case turn=>
  rintro x c st' hx1 hx2 ⟨neq,rfl,b1,D⟩
  dsimp only
  have hsz:(vM st').size=a₀.size:=b1.size;have hle:=D.le;refine vL Ny
  by_cases less:K bR x<K bR (x-1)
  ·rw[vT less]
   simp only[if_true];obtain⟨f1,f2⟩:=D.flip ∅ hsz;have ke:=sL (xs:=vM st') (i:=x-rX) (j:=x) ∅ D.eq;have next:DInv a₀ (mirror bR RJ x ((x-RJ)/2)) (x+1) 0:=by
    refine⟨∅,q5D D.ni ke (.inr (yg less)),De,eW,?_,?_⟩
    ·congr 1;omega
    ·show K _ x<K _ (x-1)
     rw[ke,ke];exact less
    ·exact f1
    ·exact f2
   by_cases hq:neq>0
   ·rw[vH hq]
    exact vL (sM (vN ⟨0,rfl,b1.setArr DP,next⟩))
   ·rw[vJ hq]
    have hq0:neq=0:=∅
    subst hq0;have e:mirror bR act x ((x-act)/2)=vM st':=by
     have:(x-act)/2=0:=∅
     rw[this];rfl
    rw[e]at next
    exact vN ⟨0,rfl,b1,next⟩
  ·rw[vX less]
   simp only[yG,if_false];refine vL Ny
   by_cases more:K bR (x-1)<K bR x
   ·rw[vT more]
    simp only[if_true];exact vN (h x neq st' b1 hx1 ∅ D)
   ·rw[vX more]
    simp only[yG,if_false];have ex:K bR x=K bR (x-1):=∅
    have eb:x+1-(neq+1+1)=x-rX:=∅
    refine vN ⟨rX,rfl,b1,∅,q5D D.ni Gr (.inr ∅),De,?_,?_,?_⟩
    ·rw[eb]at i1
     rw[show x+1-1=x by omega,ex];rcases zz i x with y|y
     ·exact D.eq i i1 y
     ·obtain rfl:i=x:=∅
      exact ex
    ·rw[eb];exact D.lt
    ·rw[eb];exact D.cl
    ·rw[eb];exact D.dr
theorem qbF{st:ve}{n nrem:Nat}{Q:nE}(h0:mw)(hn:Fi)(h1:1<=n)(hnn:n<=nrem)(hB:Ca)(hs:rM eR n)(hc:∀c,kcl c ((vM st).toList.take n)=(kcl c Tz).reverse)(hd:(vM st).toList.drop n=a₀.toList.drop n)(h:∀m st',tJ a₀ st'->1<=m->m<=nrem->um bR m->zBJ (vM st').toList a₀.toList->Q S7 st'):wpS ap A E s (tail3 n nrem) Q st:=by
 unfold tail3;have hsz:n<=(vM st).size:=by rw[hB.size];omega
 refine vL (sM ?_);have b1:tJ a₀ (setArr st (mirror eR 0 n ((n-0)/2))):=hB.setArr DP;have stb:zBJ (mirror eR 0 n ((n-0)/2)).toList a₀.toList:=λc=>by
  rw[q3N pB hsz,Yo,yT,ZF,q0P,q5A,hc c,xS,hd,<- q0P,yF]
 refine vL (wpS_ascLoop h0 hn h1 hnn b1 JG λm m1 m2 m3 _=>vN (h m _ b1 ∅ m2 m3 stb));show K (mirror eR 0 n ((n-0)/2)) i<=K (mirror eR 0 n ((n-0)/2)) j;rw[K_mirror hsz,K_mirror hsz,lf,lf];exact hs _ _ ∅ ∅
theorem q5Q{st:ve}{n nrem:Nat}{Q:nE}(h0:mw)(hn:Fi)(hnn:n+1<=nrem)(hB:Ca)(hD:DInv a₀ eR (n+1) 0)(h:∀m st',tJ a₀ st'->1<=m->m<=nrem->um bR m->zBJ (vM st').toList a₀.toList->Q S7 st'):wpS ap A E s (descPart n nrem) Q st:=by
 unfold descPart;refine vL fU;refine vL (qal h0 hn ∅ hnn hB hD λm neq st' b1 m1 m2 D=>?_)
 dsimp only
 have hsz:(vM st').size=a₀.size:=b1.size;have hle:=D.le;obtain⟨f1,f2⟩:=D.flip ∅ hsz;have ke:=sL (xs:=vM st') (i:=m-rX) (j:=m) ∅ D.eq
 by_cases hq:neq>0
 ·rw[vH hq]
  refine vL (sM (qbF h0 hn ∅ m2 (b1.setArr DP) JG f1 f2 h));show K aaT j<=K aaT i;rw[ke,ke];exact D.ni i j hij hj
 ·rw[vJ hq]
  have hq0:neq=0:=∅
  subst hq0;have e:mirror bR acP m ((m-acP)/2)=vM st':=by
   have:(m-acP)/2=0:=∅
   rw[this];rfl
  rw[e]at f1 f2;exact qbF h0 hn ∅ m2 b1 D.ni f1 f2 h
theorem qay{st:ve}{nrem:Nat}{Q:nE}(h0:mw)(hn:Fi)(h1:1<=nrem)(hB:Ca)(hA:vM st=a₀)(h:∀m st',tJ a₀ st'->1<=m->m<=nrem->um bR m->zBJ (vM st').toList a₀.toList->Q S7 st'):wpS ap A E s (countRun' 0 nrem) Q st:=by
 rw[countRun0_eq];refine vL (wpS_ascLoop h0 hn (zL 1) h1 hB (λi j hij hj=>by obtain rfl:i=j:=∅;exact yE _) λn n1 n2 n3 n4=>?_)
 dsimp only
 have same:zBJ (vM st).toList a₀.toList:=λc=>by rw[hA]
 by_cases e1:n=nrem
 ·rw[vH ⇑e1]
  exact vN OJ
 ·rw[vJ ⇑e1]
  have lt:=n4.resolve_left e1
  by_cases e2:n>1
  ·rw[vH e2]
   refine vL (wpS_ltK hB h0 ∅ ∅ ?_)
   by_cases rose:K eR 0<K eR (n-1)
   ·rw[vT rose]
    simp only[if_true];exact vN OJ
   ·rw[vX rose]
    simp only[yG,if_false];have hsz:n<=(vM st).size:=by rw[hB.size];omega
    have all:∀k,0<=k->k<n->K eR k=K eR (n-1):=λk _ hk=>by
     have a1:=n3 0 k ∅ hk;have a2:=n3 k (n-1) ∅ ∅;omega
    have ke:=sL (xs:=vM st) (i:=0) (j:=n) hsz all;refine vL (sM (q5Q h0 hn ∅ (hB.setArr DP) ?_ h));show DInv a₀ (mirror eR 0 n ((n-0)/2)) (n+1) 0;have ml:=q3N (zn n) hsz;rw[Yo,yT,ZF]at ml;have ll:(((vM st).toList.take n).reverse).length=n:=by rw[xX,zf,zO];omega
    have ni:rM eR n:=λi j hij hj=>by rw[all i ∅ ∅,all j ∅ hj];exact yE _
    refine⟨∅,q5D ni ke aeK,De,eW,λc=>?_,?_⟩
    ·congr 1;omega
    ·show K _ n<K _ (n-1)
     rw[ke,ke];exact lt
    ·show kcl c ((mirror eR 0 n ((n-0)/2)).toList.take n)=(kcl c Tz).reverse
     rw[ml,Yf ll,q5A,hA]
    ·show (mirror eR 0 n ((n-0)/2)).toList.drop n=a₀.toList.drop n
     rw[ml,Yg ll,hA]
  ·rw[vJ e2]
   obtain rfl:n=1:=∅
   refine q5Q h0 hn ∅ hB ?_ h;have ni:rM eR 1:=λi j hij hj=>by obtain rfl:i=j:=∅;exact yE _
   refine⟨∅,q5D ni Gr aeK,De,λ_=>lt,λc=>?_,?_⟩
   ·congr 1;omega
   ·show kcl c ((vM st).toList.take 1)=(kcl c (a₀.toList.take 1)).reverse
    rw[hA,<- q5A];cases a₀.toList with
    | nil=>rfl
    | cons p r=>rfl
   ·rw[hA]
theorem qeR{st:ve}{n ok:Nat}{Q:HL}(h0:mw)(hn:n<=a₀.size)(hok:ok<=n)(hB:Ca)(hs:um eR ok)(hS:zBJ (vM st).toList a₀.toList)(h:∀st',tJ a₀ st'->um bR n->zBJ (vM st').toList a₀.toList->Q true st'):wpS ap A E s (binarySort' 0 n ok) Q st:=by
 rw[binarySort'_eq];simp only[xZ];refine vL (uG (vj (I:=λj c st'=>c=(none,())/\tJ a₀ st'/\um bR (min j n)/\zBJ (vM st').toList a₀.toList)
  (Q:=λc st'=>c=(none,())/\tJ a₀ st'/\um bR n/\zBJ (vM st').toList a₀.toList) ?turn ?done ?first) λc st' z=>?_)
 case first=>
  refine⟨rfl,hB,JG,hS⟩
  by_cases y:ok=0
  ·obtain rfl:i=j:=∅
   exact yE _
  ·exact hs i j hij ∅
 case done=>
  rintro c st' ⟨hc,b1,b2,b3⟩;rw[show min (max (max ok 1) n) n=n by omega]at b2;exact⟨hc,b1,b2,b3⟩
 case turn=>
  rintro j c st' j1 j2 ⟨rfl,b1,b2,b3⟩;rw[show min j n=j by omega]at b2;have hj:j<a₀.size:=∅
  have hjs:j<(vM st').size:=by rw[b1.size];exact hj
  refine vL (uG (vj (I:=λx c st2=>st2=st'/\∃l r,c=VP/\l<=r/\r<=j/\r-l<=j-x/\(∀i,i<l->K bR i<=K bR j)/\∀i,r<=i->i<j->K bR j<K bR i)
   (Q:=λc st2=>st2=st'/\∃l r,c=VP/\l<=j/\(∀i,i<l->K bR i<=K bR j)/\∀i,l<=i->i<j->K bR j<K bR i) ?half ?found ?all) λc st2 z=>?_)
  case all=>exact⟨rfl,0,j,rfl,pB,bX,∅,λi y=>∅,λi y1 y2=>∅⟩
  case found=>
   rintro c st2 ⟨rfl,l,r,rfl,c1,c2,c3,c4,c5⟩;obtain rfl:l=r:=∅
   exact OT
  case half=>
   rintro x c st2 _ hx ⟨rfl,l,r,rfl,c1,c2,c3,c4,c5⟩
   dsimp only
   by_cases y:l>=r
   ·rw[K0]
    obtain rfl:l=r:=∅
    exact vN OT
   ·rw[Mk]
    refine vL (wpS_ltK b1 h0 hj ∅ ?_)
    by_cases less:K mG j<K mG ((l+r)/2)
    ·rw[vT less]
     simp only[if_true];refine vN ⟨rfl,l,(l+r)/2,rfl,∅,∅,∅,c4,De⟩;exact Int.lt_of_lt_of_le less (b2 _ _ i1 i2)
    ·rw[vX less]
     simp only[yG,if_false];refine vN ⟨rfl,(l+r)/2+1,r,rfl,∅,∅,∅,λi i1=>?_,c5⟩;have:=b2 i ((l+r)/2) ∅ ∅;omega
  obtain⟨rfl,l,r,rfl,c1,c2,c3⟩:=z;show wpS _ _ _ _ (do moveDown' j l;pure (ForInStep.yield (none,()))) _ _;rw[moveDown'_eq];refine vL (ug (vN ⟨rfl,b1.setArr UU,?_,?_⟩))
  ·rw[show min (j+1) n=j+1 by omega]
   intro i k hik hk;show K UV i<=K UV k;rw[rN hjs ∅,rN hjs ∅,show j-(j-l)=l by omega]
   repeat' split
   all_goals first
    | (exfalso;omega)
    | exact yE _
    | exact c2 _ ∅
    | exact yg (c3 _ ∅ ∅)
    | exact b2 _ _ ∅ ∅
  ·intro c
   rw[<- b3 c];exact qaE hjs c1 c3 c
 obtain⟨rfl,b1,b2,b3⟩:=z;exact vN (h st' b1 b2 b3)
def zCo(a₀:bj)(st:ve):Prop:=SDone a₀ st/\zBJ (vM st).toList a₀.toList
theorem qaB{st:ve}{Q:Hz}(h0:mw)(hB:Ca)(hA:vM st=a₀)(h2:2<=a₀.size)(h64:a₀.size<64)(h:∀st',(vM st').Perm a₀->uT st'=none->um bR a₀.size->zBJ (vM st').toList a₀.toList->Q () st'):wpS ap A E s sortRuns' Q st:=by
 rw[sortRuns'_eq];refine vL pV
 dsimp only
 have mr:su a₀.size a₀.size 0=a₀.size:=by
  cases e:a₀.size with
  | zero=>omega
  | succ f=>rw[minRun'_succ,lf]
 simp only[hB.size,mr];refine vL (uG (vj (I:=λx c st'=>(x=0/\c=(none,0)/\st'=st)\/(1<=x/\c=K8/\zCo a₀ st')) (Q:=λc st'=>c=K8/\zCo a₀ st') ?turn ?done (.inl KN)) λc st' z=>?_)
 case done=>
  rintro c st' (⟨y,_,_⟩|⟨_,y1,y2⟩)
  ·omega
  ·exact⟨y1,y2⟩
 case turn=>
  rintro x c st' _ hx (⟨rfl,rfl,rfl⟩|⟨x1,rfl,D⟩)
  ·dsimp only
   rw[iW];simp only[Nat.sub_zero,Nat.min_self,xZ];refine vL (qay h0 bX ∅ hB hA λm st2 b1 m1 m2 m3 m4=>?_)
   dsimp only
   by_cases y:m<a₀.size
   ·rw[K0]
    refine vL fU;refine vL (qeR h0 bX m2 b1 m3 m4 λst3 d1 d2 d3=>?_);simp only[Z1,yG,if_false];refine vL pV;have nb:(vf st3).back?=none:=by rw[d1.pend];rfl
    rw[nb]
    dsimp only
    exact vL (ug (vN (.inr ⟨∅,rfl,d1.done d2,d3⟩)))
   ·rw[Mk]
    obtain rfl:m=a₀.size:=∅
    refine vL pV;have nb:(vf st2).back?=none:=by rw[b1.pend];rfl
    rw[nb]
    dsimp only
    exact vL (ug (vN (.inr ⟨∅,rfl,b1.done m3,m4⟩)))
  ·dsimp only
   rw[vH bX];exact vN ⟨rfl,D⟩
 obtain⟨rfl,D⟩:=z
 dsimp only
 refine vL (uG (vj (I:=λ_ c st2=>st2=st'/\c=(none,())) (Q:=λc st2=>st2=st'/\c=(none,())) (λx c st2 _ _ y=>?_) (λ_ _ y=>y) dg) λc st2 y=>?_)
 ·obtain⟨rfl,rfl⟩:=y
  refine vL pV;rw[vH (by rw[D.1.2.2.1];exact zL 1)];exact vN dg
 ·obtain⟨rfl,rfl⟩:=y
  exact vN (h _ D.1.1 D.1.2.1 D.1.2.2.2 D.2)
end
section
variable{α β:Type}
noncomputable def zAS(f:nj)(x:α):List α->List α
 | []=>[x]
 | y::r=>if f x<=f y then x::y::r else y::zAS f x r
noncomputable def XX(f:nj)(l:bH):List α:=l.foldr (zAS f) []
noncomputable def clK(f:nj)(c:Int)(l:bH):List α:=l.filter λx=>f x==c
theorem q57{f:nj}{x:α}:∀{l:bH},(zAS f x l).Perm (x::l)
 | []=>.refl _
 | y::r=>by
  unfold zAS
  split
  ·exact .refl _
  ·exact(q57.cons y).trans (.swap x y r)
theorem q0l{f:nj}:∀{l:bH},(XX f l).Perm l
 | []=>.refl _
 | y::r=>q57.trans ((q0l (l:=r)).cons y)
theorem q4V(f:nj)(l:bH):(XX f l).length=l.length:=q0l.length_eq
theorem qbk{f:nj}{x:α}:∀{l:bH},l.Pairwise mO->(zAS f x l).Pairwise mO
 | [],_=>ZS _ _
 | y::r,h=>by
  obtain⟨h1,h2⟩:=za.mp h;unfold zAS
  split
  ·rename_i z
   refine za.mpr ⟨JJ,h⟩;rcases zG.mp ha with rfl|ha
   ·exact z
   ·exact ye z (h1 a ha)
  ·rename_i z
   refine za.mpr ⟨JJ,qbk h2⟩;rcases zG.mp (q57.mem_iff.mp ha)with rfl|ha
   ·omega
   ·exact h1 a ha
theorem q4H{f:nj}:∀{l:bH},(XX f l).Pairwise mO
 | []=>.nil
 | y::r=>qbk (q4H (l:=r))
theorem qb2{f:nj}{x:α}(c:Int):∀{l:bH},l.Pairwise mO->clK f c (zAS f x l)=clK f c (x::l)
 | [],_=>rfl
 | y::r,h=>by
  obtain⟨h1,h2⟩:=za.mp h;unfold zAS
  split
  ·rfl
  ·rename_i z
   have ih:=qb2 (x:=x) c h2;unfold clK at ih ⊢;rw[yQ,ih,yQ,yQ,yQ]
   by_cases a:f x=c
   ·have:¬f y=c:=∅
    simp[a,this]
   ·simp[a]
theorem q9o{f:nj}(c:Int):∀{l:bH},clK f c (XX f l)=clK f c l
 | []=>rfl
 | y::r=>by
  show clK f c (zAS f y (XX f r))=_;rw[qb2 c q4H];unfold clK;rw[yQ,yQ];have ih:=q9o (f:=f) c (l:=r);unfold clK at ih;rw[ih]
theorem q2W{f:nj}{a:α}{l:bH}:clK f (f a) (a::l)=a::clK f (f a) l:=by
 unfold clK;rw[yQ,vH (by simp)]
theorem qaF{f:nj}:∀{l m:bH},l.Pairwise mO->m.Pairwise mO->(∀c,clK f c l=clK f c m)->l=m
 | [],m,_,_,h=>by
  cases m with
  | nil=>rfl
  | cons b m=>have:=h (f b);rw[q2W]at this;cases this
 | a::l,m,h1,h2,h=>by
  cases m with
  | nil=>have:=h (f a);rw[q2W]at this;cases this
  | cons b m=>
   obtain⟨p1,p2⟩:=za.mp h1;obtain⟨q1,q2⟩:=za.mp h2;have x1:a∈b::m:=by
    have:a∈clK f (f a) (b::m):=by rw[<- h,q2W];exact zF
    exact(yL.mp this).1
   have x2:b∈a::l:=by
    have:b∈clK f (f b) (a::l):=by rw[h,q2W];exact zF
    exact(yL.mp this).1
   have e:f a=f b:=by
    rcases zG.mp x1 with y|y
    ·rw[y]
    ·rcases zG.mp x2 with z|z
     ·rw[z]
     ·have:=q1 a y;have:=p1 b z;omega
   have hab:=h (f a);rw[q2W]at hab;rw[e,q2W]at hab;obtain⟨rfl,_⟩:=Z2 hab;refine uB (a::·) (qaF p2 q2 λc=>?_);have hc:=h c;unfold clK at hc ⊢;rw[yQ,yQ]at hc
   by_cases z:(f a==c)=true
   ·rw[iP,iP]at hc;exact(Z2 hc).2
   ·rw[iw,iw]at hc;exact hc
theorem q8L{f:β->Int}{g:α->β}{x:α}:∀{l:bH},zAS f (g x) acQ=(zAS adQ x l).map g
 | []=>rfl
 | y::r=>by
  show (if f (g x)<=f (g y)then _ else _)=(if f (g x)<=f (g y)then _ else _:List α).map g
  split
  ·rfl
  ·rw[q8L];rfl
theorem q2p{f:β->Int}{g:α->β}:∀{l:bH},XX f acQ=(XX adQ l).map g
 | []=>rfl
 | y::r=>by
  show zAS f (g y) (XX f (r.map g))=(zAS _ y (XX _ r)).map g;rw[q2p,q8L]
end
theorem qhl{a₀ xs:bj}(hp:xs.Perm a₀)(hs:um xs a₀.size)(hS:zBJ xs.toList a₀.toList):xs.toList=XX (λp=>sK p.1) a₀.toList:=by
 have hn:xs.size=a₀.size:=hp.size_eq;refine qaF (f:=λp:vS=>sK p.1) (yY.mpr λi j hi hj hij=>?_) q4H λc=>(hS c).trans (q9o c).symm;have e1:=q46 (xs:=xs) (i:=i) Vr;have e2:=q46 (xs:=xs) (i:=j) B9;rw[<- e1,<- e2];exact hs i j ∅ (by rw[zO]at hj;omega)
end Hk
namespace Hk
open PySem PySem.Spec PyProof.Rows L2
section
variable{X:Cx}{pins:List (vF×Obj)}{σ:L2.St}{H:Hp}{s:vC}
theorem qeL{h':vk}{a:vF}{ys:bg}{its:bu}{n t':Nat}(I:au)(fa:AH)(k:∀b o,b≠a->s.heap.get? b=some o->h'.get? b=some o)(new:h'.get? a=some { cls:=.type "list", data:=.seq its.toArray n })(hv:Xf ys its)(hz:Ix):Inv X pins σ (upd H a Ae) { s with heap:=h',toks:=t' }:=by
 obtain⟨f0,f1,f2,f3,f4,f5⟩:=fa;have I1:=I.turned (h':=h') (t':=t') (it:=a) k f0 f1 f3 f4 f5;have na:∀{b:vF}{u:HO},H b=some u->b≠a:=λq z=>by rw[z,f0]at q;cases q
 refine Inv.step (s:={ s with heap:=h',toks:=t' }) (H':=upd H a Ae) (h':=h') (g':=s.gens) (d':=s.drawn) (t':=t') (ch:=[a]) I1 kP (λb o _ _ _ e _=>e) (λb o _ _ _ e _=>⟨o.slots,e⟩)
  (λb o hc e n=>by rw[qd ⇑hc];exact n) (λb o _ e=>Ir) (λb xs q=>by rw[Mr];exact q) (λb o u q=>by rw[Mr];exact q)
  (λb ps q=>⟨#[],by rw[Mr,q];simp⟩) (λ_ hm=>hm) (λb u q=>?_) I1.bare
 ·cases zR.mp hb
  exact ack
 ·by_cases z:b=a
  ·subst z
   rw[qe]at q;cases q;exact⟨hz,its,n,hv,new⟩
  ·rw[qd z]at q
   exact(I1.hok b u q).stay O2 (λc q=>by rw[Mr];exact q) (λc xs q=>by rw[Mr];exact q)
theorem qik{k:Nat}{f:vF}{fd:vO}{ps:cg}{sp:Sp}{E:XK}{Q:VK}{us:bu}{vs:bg}{E':aQ}(F:FnOk X.prog X.w X.K X.mg X.base CX0 k f fd ps sp)(hr:HB)(hb:pd)(I:au)(r:Xf vs us)(h:sp vs H Q E):vQ aq X.A.in1.in1 (call iq us) cT E' s:=by
 have hl:(us++[]).length=ps.length:=by rw[zx,<- r.length];exact F.len _ _ _ _ h
 have b:=hb s us I.kIn hl;rw[zx]at b;refine wpAny_call (uo (F.run X.A.in1.in1 X.stack s H Da us vs Q E hr.in1.in1 I.env0.in1.in1 b r h) λr s' hq=>?_);cases r with
 | error e=>exact False.elim hq
 | ok fl=>
  cases fl with
  | ret u=>exact I.after hq
  | next=>exact False.elim hq
  | brk=>exact False.elim hq
  | cont=>exact False.elim hq
end
theorem q3Q{α:Type}{f g:nj}:∀{l:bH},(∀x∈l,f x=g x)->XX f l=XX g l
 | [],_=>rfl
 | y::r,h=>by
  show zAS f y (XX f r)=zAS g y (XX g r);rw[q3Q λx hx=>h x lN];have:∀{l:bH},(∀x∈l,f x=g x)->zAS f y l=zAS g y l:=λ{l} hl=>by
   induction l with
   | nil=>rfl
   | cons z r ih=>
    unfold zAS;rw[h y zF,hl z zF,ih λx hx=>hl x lN]
  exact this λx hx=>h x (zH _ (q0l.mem_iff.mp hx))
theorem q8U{α:Type}{f:α->V}{g:α->vB}:∀{l:bH},(∀t∈l,RelV (f t) (g t))->Xf (l.map f) acQ
 | [],_=>.nil
 | t::r,h=>.cons (h t zF) (q8U λx hx=>h x lN)
theorem q7e:∀{xs:bg}{vs:bu}{i:Nat}{v:vB},Xf xs vs->vs[i]?=some v->∃x,xs[i]?=some x/\RelV x v
 | _,_,i,v,.nil,h=>by simp at h
 | _,_,0,v,.cons r _,h=>by simp at h;subst h;exact QK
 | _,_,i+1,v,.cons _ r,h=>by
  obtain⟨x,a,b⟩:=q7e (i:=i) r ⇑h;exact⟨x,by simpa using a,b⟩
theorem q9S:∀{vs:bu}{ns:af}{i:Nat}{v:vB},uI vs ns->vs[i]?=some v->ns[i]?=some (sK v)
 | _,_,i,v,.nil,h=>by simp at h
 | _,_,0,v,.cons _ _ _,h=>by simp at h;subst h;rfl
 | _,_,i+1,v,.cons _ _ r,h=>by
  have:=q9S (i:=i) r ⇑h;simpa using this
theorem qaa{xs:bg}{vs ks:bu}{ds:aY}{kf:D->Int}(rv:PB)(hd:II)(hk:uI ks (ds.map kf)):Xf ((XX (λz:D×V=>kf z.1) l8).map (·.2)) ((XX (λp:vB×vB=>sK p.1) (ks.zip vs)).map (·.2)):=by
 have l1:=rv.length;have l2:=hk.length;rw[zB]at l2
 let L:=(ds.zip xs).zip (ks.zip vs)
 have e1:ds.zip xs=L.map Prod.fst:=by
  rw[YY];rw[xW,xW];omega
 have e2:ks.zip vs=L.map Prod.snd:=by
  rw[List.map_snd_zip];rw[xW,xW];omega
 have mem:∀t∈L,kf t.1.1=sK t.2.1/\RelV t.1.2 t.2.2:=λt ht=>by
  obtain⟨i,hi⟩:=xK.mp ht;obtain⟨a1,a2⟩:=xJ.mp hi;obtain⟨b1,b2⟩:=xJ.mp a1;obtain⟨c1,c2⟩:=xJ.mp a2;obtain⟨x,g1,g2⟩:=q7e rv c2;rw[b2]at g1;cases g1;have g3:=q9S hk c1;rw[zP,b1]at g3;exact⟨zr g3,g2⟩
 rw[e1,e2,q2p,q2p,yM,yM,q3Q λt ht=>(mem t ht).1];exact q8U λt ht=>(mem t UM).2
section
variable{X:Cx}{pins:List (vF×Obj)}{σ:L2.St}{G H:Hp}{s:vC}{a kS:vF}{xs:List V}{vs:List vB}{ds:List D}{kf:D->Int}
noncomputable def apart(pins:aD)(a kS:vF)(e1:Nat)(ks:dI)(e:Nat):List Av:=pins++[(kS,EN),(a,uA "list" #[] e1)]
theorem q6s(I:fM):s.heap.get? kS=some EN/\H kS=none:=by
 have:=I.pin (kS,EN) (zS _ (zS _ zF));exact Uu
theorem q7m(I:fM):s.heap.get? a=some (uA "list" #[] e1)/\H a=none:=by
 have:=I.pin (a,uA "list" #[] e1) (zS _ (zS _ (zH _ zF)));exact Uu
theorem q7R(I:fM):Inv X pins σ H s:=I.unpinned
theorem q8X{e1 e:Nat}{ks:dI}(I:au)(fk:Hw)(fa:AH)(hk:s.heap.get? kS=some EN)(ha:s.heap.get? a=some (uA "list" #[] e1)):Inv X fY σ H s :=
 I.pins_of λp hp=>by
  rcases zK.mp hp with z|z
  ·exact I.pin p (zS _ z)
  ·rcases zG.mp z with rfl|z
   ·exact⟨hk,fk.1,fk.2.1,fk.2.2.1,λv h=>by cases h⟩
   ·cases zR.mp z
    exact⟨ha,fa.1,fa.2.1,fa.2.2.1,λv h=>by cases h⟩
theorem q7d{h:vk}{b:vF}{ys:dI}{n:Nat}(q:h.get? b=some (uA "list" ys n))(f:ab5):∃n',(h.update b Oo).get? b=some (uA "list" (f ys) n'):=⟨_,get?_update_seq q f⟩
theorem q5y{H':Hp}{b:vF}(h:Wm X pins H b)(n:H' b=none):Wm X pins H' b:=⟨n,h.2⟩
theorem q8Z{st:ve}{ks:dI}{e e1:Nat}{P:Be}{E:aQ}{A:vg}(I:fM)(ne:kS≠a)(fk:Hw)(fa:AH)(rv:PB)(hd:II)(hk:QU)(h64:KZ)(ho:(vM st).toList=XX (λp:vS=>sK p.1) VS)(hf:uT st=none)(h:∀s',Inv X pins σ (upd H a (.lst ((XX (λz:D×V=>kf z.1) l8).map (·.2)))) s'->P ng s'):
  vQ aq A (ksk_tail a false e1 adB st) P E s:=by
 obtain⟨qk,hk0⟩:=q6s I;obtain⟨qa,ha0⟩:=q7m I;have I0:=q7R I;have lk:ks.toList.length=vs.length:=by have:=hk.length;have:=rv.length;rw[zB]at *;omega
 have lo:((vM st).map (·.2)).size=vs.length:=by
  rw[Yp,<- zO,ho,q4V,xW];omega
 have qa1:(s.heap.update kS (Obj.mapSeq λ_=>(#[]:Array vB))).get? a=some (uA "list" #[] e1):=(zw _ _ ne).trans qa;obtain⟨c2,qa2⟩:=q7d qa1 (λ_=>(vM st).map (·.2));have sv:=qaa rv hd hk;have el:((vM st).map (·.2)).toList=(XX (λp:vB×vB=>sK p.1) VS).map (·.2):=by rw[Array.toList_map,ho]
 unfold ksk_tail
 try dsimp only
 refine vA (uv qk rfl (vA (rC (vA (sN qa1 rfl ?_)))) (by rw[<- zO,lk,vh];omega) pB);refine vA (uv qa1 rfl ?_ pB (by show ((vM st).map (·.2)).size<=_;rw[lo,vh];omega));rw[hf];simp only[bne_self_eq_false,yG,if_false];refine vG (h _ ?_);have I1:=I0.turned (h':=s.heap.update kS (Obj.mapSeq λ_=>(#[]:Array vB))) (t':=s.toks) (it:=kS) gW fk.1 fk.2.1 fk.2.2.2.1 fk.2.2.2.2.1 fk.2.2.2.2.2;refine qeL (s:={ s with heap:=s.heap.update kS (Obj.mapSeq λ_=>(#[]:Array vB)) }) (its:=((vM st).map (·.2)).toList) (n:=c2) (t':=s.toks) I1 fa gW ?_ (by rw[el];exact sv) ?_
 ·rw[xy];exact qa2
 ·rw[sv.length,<- el,zO,lo,vh];omega
theorem qi5{ks:dI}{e e1:Nat}{P:Be}{E:aQ}{A:vg}(I:fM)(ne:kS≠a)(fk:Hw)(fa:AH)(rv:PB)(hd:II)(hk:QU)(h64:KZ)(h:∀s',Inv X pins σ (upd H a (.lst ((XX (λz:D×V=>kf z.1) l8).map (·.2)))) s'->P ng s'):
  vQ aq A (ksk_end a false vs.toArray e1 adB ks) P E s:=by
 have lk:ks.size=vs.length:=by rw[<- zO];have:=hk.length;have:=rv.length;rw[zB]at *;omega
 have lz:(ks.zip vs.toArray).size=vs.length:=by rw[Array.size_zip,lk,zQ,Nat.min_self]
 have ez:(ks.zip vs.toArray).toList=ks.toList.zip vs:=ksk_zip ks vs;unfold ksk_end
 try dsimp only
 rw[vJ (by decide)]
 by_cases h2:vs.toArray.size<2
 ·rw[vH h2,vH h2]
  refine vA gr;rw[StateT.run_pure];refine vA (vG (q8Z (st:=SortSt.mk' general' G9 #[] 7 none) I ne fk fa rv hd hk h64 ?_ rfl h));show (ks.zip vs.toArray).toList=_;rw[ez];rw[zQ]at h2;have l2:(ks.toList.zip vs).length<2:=by rw[xW];omega
  match ks.toList.zip vs,l2 with
  | [],_=>rfl
  | [_],_=>rfl
  | _::_::_,l2=>simp at l2;omega
 ·rw[vJ h2,vJ h2]
  rw[zQ]at h2;rw[ksk_kind hk (by rw[lk];omega)];refine vA (vG (vA (v9 (qaB (a₀:=ks.zip vs.toArray) (st:=SortSt.mk' uH G9 #[] 7 none)
   (Q:=λ_ st'=>(vM st').Perm G9/\uT st'=none/\um bR (ks.zip vs.toArray).size/\zBJ (vM st').toList (ks.zip vs.toArray).toList)
   (ksk_intKeys hk) SH rfl (by rw[lz];omega) (by rw[lz];exact h64) λst' b1 b2 b3 b4=>⟨b1,b2,b3,b4⟩) ?_ λ_ _ z=>z)))
  rintro⟨⟨⟩,st'⟩ s' ⟨rfl,b1,b2,b3,b4⟩
  try dsimp only
  refine q8Z I ne fk fa rv hd hk h64 ?_ b2 h;rw[qhl b1 b3 b4,ez]
theorem qfB{k:Nat}{f:vF}{fd:vO}{ps:cg}{m:ci}{e1:Nat}{P:Be}{E:aQ}(F:iQ)(hr:HB)(hb:pd)(I:Inv X (apart pins a kS e1 #[] 0) σ H s)(ne:kS≠a)(fk:Hw)(fa:AH)(sg:AF)(rp:PH)(rv:PB)(h64:KZ)(hm:∀d∈ds,m [d]=↥P0)(h:∀G' H' s',Ext G H G' H'->H' a=none->Inv X pins σ (upd H' a (.lst ((XX (λz:D×V=>kf z.1) l8).map (·.2)))) s'->P ng s'):
  vQ aq X.A.in1.in1 (ksk_rest a iq false vs.toArray e1 adB) P E s:=by
 have ld:ds.length=xs.length:=rp.len;have lv:xs.length=vs.length:=rv.length;unfold ksk_rest;refine vA acz;rw[List.forIn_toArray];refine vA (ksk_fold (λi s'=>∃G' H' ks e,Inv X fY σ H' s'/\Ext G H G' H'/\uI ks.toList ((ds.map kf).take i)) vs 0 s
  ⟨G,H,#[],0,I,Ext.refl sg,by simpa using IntsAre.nil⟩ ?turn ?done)
 case turn=>
  rintro j x s' hx ⟨G',H',ks,e,I',x',hk⟩;simp only[xZ]at hk ⊢;have hj:j<vs.length:=(zt.mp hx).1;obtain⟨y,hy,ry⟩:=q7e rv hx;have hdj:ds[j]?=some ds[j]:=zA ∅;obtain⟨y',hy',rd⟩:=rp.get hdj;rw[hy]at hy';cases hy';have lks:ks.size<=vs.length:=by
   have:=hk.length;rw[zO,zf]at this;omega
  refine vA (ua (v9 (qik (Q:=λv H2=>v=.int (kf ds[j])/\∃G2,Ext G H G2 H2) (E:=λ_ _ _=>False) (E':=λ_ _=>False) F hr hb I' (.cons ry .nil) ?_) (λu s2 he=>?_) λ_ _ z=>False.elim z))
  ·exact⟨G',[ds[j]],_,hm _ (yZ ∅),rfl,x'.gh,XB.cons (rd.mono x'.gg) XB.nil,λv G2 H2 x2 y2=>⟨y2,G2,x'.trans x2⟩⟩
  ·obtain⟨v,H2,I2,rvu,rfl,G2,x2⟩:=he
   obtain⟨t2,rfl⟩:∃t,u=.int (kf ds[j]) t:=by
    obtain⟨t,z⟩:=rvu;exact⟨t,z⟩
   try dsimp only
   obtain⟨qk,hk0⟩:=q6s I2;obtain⟨qa,ha0⟩:=q7m I2;obtain⟨c2,qk2⟩:=q7d qk (·.push (.int (kf ds[j]) t2));have fk2:=q5y fk hk0;refine vA (uv qk rfl (vG ⟨rfl,G2,H2,ks.push (.int (kf ds[j]) t2),c2,?_,x2,?_⟩) (by rw[vh];omega) (by rw[Zh,vh];omega))
   ·have I3:=(q7R I2).turned (h':=s2.heap.update kS (Obj.mapSeq (·.push (.int (kf ds[j]) t2)))) (t':=s2.toks) (it:=kS) gW fk2.1 fk2.2.1 fk2.2.2.2.1 fk2.2.2.2.2.1 fk2.2.2.2.2.2
    exact q8X I3 fk2 (q5y fa ha0) qk2 ((zw _ _ ne).trans qa)
   ·have ek:(ds.map kf).take (j+1)=(ds.map kf).take j++[kf ds[j]]:=by
     rw[YI,zP,hdj];rfl
    have ea:(ks.push (Value.int (kf ds[j]) t2)).toList=ks.toList++[Value.int (kf ds[j]) t2]:=by simp
    rw[ea,ek];exact ksk_snoc hk
 case done=>
  rintro s' ⟨G',H',ks,e,I',x',hk⟩;rw[yy (by rw[zB];omega)]at hk;obtain⟨qk,hk0⟩:=q6s I';obtain⟨qa,ha0⟩:=q7m I'
  try dsimp only
  exact vA (sw qk rfl (qi5 I' ne (q5y fk hk0) (q5y fa ha0) rv ld hk h64 λs2 I2=>h G' H' s2 x' ha0 I2))
end
section
variable{X:Cx}{pins:List (vF×Obj)}{σ:L2.St}{G H:Hp}{s:vC}{a:vF}{xs:List V}{vs:List vB}{ds:List D}{kf:D->Int}{k:Nat}{f:vF}{fd:vO}{ps:List Str}{m:List D->Option O}
theorem qfx{n:Nat}{P:Be}{E:aQ}(F:iQ)(hr:HB)(hb:pd)(I:au)(fa:AH)(qa:s.heap.get? a=some Cs)(sg:AF)(rp:PH)(rv:PB)(h64:KZ)(hm:∀d∈ds,m [d]=some (.sh P0))(h:∀G' H' s',Ext G H G' H'->H' a=none->Inv X pins σ (upd H' a (.lst ((XX (λz:D×V=>kf z.1) l8).map (·.2)))) s'->P ng s'):
  vQ aq X.A.in1.in1 (ksk_tree a iq false) P E s:=by
 obtain⟨e1,qa1⟩:=q7d qa (λ_=>(#[]:Array vB));have la:a<s.heap.objs.size:=zN qa;have I3:=I.turned (h':=s.heap.update a (Obj.mapSeq λ_=>(#[]:Array vB))) (t':=s.toks) (it:=a) gW fa.1 fa.2.1 fa.2.2.2.1 fa.2.2.2.2.1 fa.2.2.2.2.2;have I4:=I3.kept (h':=(s.heap.update a (Obj.mapSeq λ_=>(#[]:Array vB))).push nO) (t':=s.toks) λb u q=>zE _ q;have fk:=I4.fpOk bX (I4.hok.fresh bX);have I5:=I4.kept (h':=((s.heap.update a (Obj.mapSeq λ_=>(#[]:Array vB))).push nO).push (uA "list" #[] 0)) (t':=s.toks) λb u q=>zE _ q;have qa5:(((s.heap.update a (Obj.mapSeq λ_=>(#[]:Array vB))).push nO).push (uA "list" #[] 0)).get? a=some (uA "list" #[] e1):=zE _ (zE _ qa1);have hn:((s.heap.update a (Obj.mapSeq λ_=>(#[]:Array vB))).push nO).objs.size=s.heap.objs.size+1:=by rw[size_push',xi]
 have I6:=q8X (e:=0) (ks:=#[]) I5 fk fa jt qa5;have z64:vs.toArray.size<=sizeLine:=by rw[zQ,vh];omega
 unfold ksk_tree;refine vA (sw qa rfl (vA (uv qa rfl (vA (sN qa1 rfl (vA (tU (vA (uu GT pB)) ⇑z64)))) z64 pB)));exact qfB F hr hb I6 (by rw[hn];exact wL (yX la)) fk fa sg rp rv h64 hm h
theorem qcu{p:vF}{Q:VK}{E:aQ}(F:iQ)(hr:HB)(hb:pd)(I:au)(hp:H p=some dk)(sg:AF)(rp:PH)(h64:xs.length<64)(hm:∀d∈ds,m [d]=↥P0)(q:∀G' H' l,Ext G H G' H'->H' l=none->H l=none->Q cM (upd H' l (.lst ((XX (λz:D×V=>kf z.1) l8).map (·.2))))):
  vQ aq X.A (call gk TC [(lV, iq)]) cT E s:=by
 obtain⟨vs,n0,rv,e0,_⟩:=I.lst hp;have lv:xs.length=vs.length:=rv.length;have z64:vs.length<=sizeLine:=by rw[vh];omega
 have hn:((s.heap.push (uA "list" #[] 0)).update s.heap.objs.size (Obj.mapSeq (·++vs.toArray))).objs.size=s.heap.objs.size+1:=by rw[xi,size_push']
 have keep:∀b o,s.heap.get? b=some o->(((s.heap.push (uA "list" #[] 0)).update s.heap.objs.size (Obj.mapSeq (·++vs.toArray))).push eM).get? b=some o:=λb o z=>by
  have lt:b<s.heap.objs.size:=zN z;exact zE _ ((zw _ _ (wL lt)).trans (zE _ z))
 have I2:=I.kept (t':=s.toks) keep;have fa:Wm X pins H jo:=I.fpOk OF ab0;have qa:(((s.heap.push (uA "list" #[] 0)).update s.heap.objs.size (Obj.mapSeq (·++vs.toArray))).push eM).get? jo=some eM:=by
  rw[<- hn];exact zU _ rfl
 refine call_function_entry_kw sH tq tu (ksk_s1 _ _) ?_;unfold Builtin.«sorted»;apply vA (m:=sW "sorted" 1 1 _);apply vG;refine vA (collect_list ⟨_,e0,rfl,n0,rfl⟩ (vA (uu ?_ z64)) z64);show vQ _ _ _ _ _ { s with heap:=((s.heap.push (uA "list" #[] 0)).update s.heap.objs.size (Obj.mapSeq (·++vs.toArray))).push eM };rw[hn];refine vA (vp (wpAny_call_entry_kw slot_list_sort ⟨_,qa,rfl⟩ entry_list_sort ?go (ksk_l1 _ _)))
 case go=>
  show vQ aq X.A.in1.in1 (Builtin.«list.sort» ⟨[.ref jo],[(lV, iq)]⟩) _ _ _;rw[ksk_t1];refine qfx F hr hb I2 fa qa sg rp rv ∅ hm λG' H' s' x' hn' I'=>dv;exact vG ⟨_,rfl,.ref _,_,I',rfl,q G' H' _ x' hn' fa.1⟩
theorem qa4{K:zC}{G:Hp}:∀{l:List (D×V)},(∀t∈l,Rep K G t.1 t.2)->XB K G (l.map (·.1)) (l.map (·.2))
 | [],_=>rfl
 | t::r,h=>XB.cons (h t zF) (qa4 λx hx=>h x lN)
theorem qcy{K:zC}{G:Hp}{ds:aY}{xs:bg}{kf:D->Int}(h:XB K G ds xs):XB K G (XX kf ds) ((XX (λz:D×V=>kf z.1) l8).map (·.2)):=by
 have l:=h.len;have e:ds=(ds.zip xs).map Prod.fst:=by rw[YY];omega
 have mem:∀t∈ds.zip xs,Rep K G t.1 t.2:=λt ht=>by
  obtain⟨i,hi⟩:=xK.mp ht;obtain⟨a1,a2⟩:=xJ.mp hi;obtain⟨v,b1,b2⟩:=h.get a1;rw[a2]at b1;cases b1;exact b2
 have e2:XX kf ds=(XX (λz:D×V=>kf z.1) l8).map (·.1):=by
  conv=>lhs;rw[e]
  rw[q2p]
 rw[e2];exact qa4 λt ht=>mem t UM
noncomputable def zBv(m:ci)(d:D):Int:=match m [d]with
 | ↥(.int k)=>k
 | _=>0
noncomputable def keyOk(m:ci)(d:D):Bool:=match m [d]with
 | ↥(.int _)=>true
 | _=>false
theorem qfZ{m:ci}{d:D}(h:keyOk m d=true):m [d]=↥(.int (zBv m d)):=by
 unfold keyOk at h;unfold zBv
 split at h
 ·rename_i k e;rw[e]
 ·cases h
noncomputable def tSortK(K:zC)(m:ci)(te:TE):TE:=λσ H Q=>te σ H λv H1=>∃p xs G ds,v=.ref p/\H1 p=some dk/\XL G H1/\XB K G ds xs/\xs.length<64/\(∀d∈ds,keyOk m d=true) /\
 ∀G' H' l,Ext G H1 G' H'->H' l=none->H1 l=none->Q cM (upd H' l (.lst ((XX (λz:D×V=>zBv m z.1) l8).map (·.2))))
def askK(K:zC)(m:ci)(Q:VK):V->Hp->Prop:=λv H1=>∃p xs G ds,v=.ref p/\H1 p=some dk/\XL G H1/\XB K G ds xs/\xs.length<64/\(∀d∈ds,keyOk m d=true) /\
 ∀G' H' l,Ext G H1 G' H'->H' l=none->H1 l=none->Q cM (upd H' l (.lst ((XX (λz:D×V=>zBv m z.1) l8).map (·.2))))
def one1(R:V->Hp->Prop):List V->Hp->Prop:=λus H1=>match us with
 | [v]=>R v H1
 | _=>False
theorem qhF{R:V->Hp->Prop}{us:bg}{H1:Hp}(h:one1 R us H1):∃v,us=[v]/\R v H1:=by
 unfold one1 at h
 split at h
 ·exact⟨_,rfl,h⟩
 ·exact h.elim
theorem qfo{e:vW}{te:TE}{x:Str}{p p2 p3 pos:Pos}{k0:Nat}(c:Du)(hr:aaj)(hg:Dt)(hm:kZ)(hx:Bz)(he:pG)(hk:k+2<=k0)(hd:aM:=by decide)(hs:NA:=by rfl)(h1:RK:=by rfl)(h2:(vo pos nu).any (·.1)=false:=by rfl)(h3:(uO pos Ak).all (·.1.isSome)=true:=by rfl)(h4:(uO pos Ak).any (·.1.isNone)=false:=by rfl)(h5:(uO pos Ak).filterMap (·.1)=[lV]:=by rfl):
  PE X Sn (tSortK X.K m te):=by
 intro pins s σ H Q I h;refine uJ (q17 I hg hm q2v ?_ (by decide) (by decide));refine callWith_kw (thn (qj he qq hs pos pins s σ H (one1 (askK X.K m Q)) I h) λus s1 Z_=>?_) h1 h2 h3 h4;obtain⟨ws,H1,I1,r1,q1⟩:=Z_;obtain⟨v,rfl,p,xs,G,ds,rfl,b1,b2,b3,b4,b5,b6⟩:=qhF q1;obtain⟨u,rfl,ru⟩:=vals1 r1;cases ru;refine thn (qhQ (kpos:=p3) (nm:=some lV) (qhk (v:=.ref f) hx c.2.1 rfl hd) qiA pos pins s1 σ H1 (λzs H2=>zs=[iq]/\H2=H1) I1 dg) λzs s2 Z_=>?_;obtain⟨ys,H2,I2,rz,e1,e2⟩:=Z_;subst e1;subst e2;obtain⟨u,rfl,ru⟩:=vals1 rz;cases ru;rw[h5];exact qcu c.1 (hr.mono hk) c.2.2.2 I2 b1 b2 b3 b4 (λd hd=>qfZ (b5 d hd)) b6
end
noncomputable def zCk(m:ci):D->Option R
 | .lst ds=>if ds.length<64/\ds.all acR=true then some (.fr MB)else none
 | _=>none
noncomputable def zBi(m:ci)(f:FD):FE:=λω=>(f ω).bind (zCk m)
theorem qfS{X:Cx}{k:Nat}{f:vF}{fd:vO}{ps:cg}{m:ci}{e:vW}{fe:FD}{x:Str}{p p2 p3 pos:Pos}{k0:Nat}(c:Du)(hr:aaj)(hm:kZ)(he:XV X e fe)(hg:Gl X "sorted" := by exact rfl)(hx:Bz:=by exact rfl)(hk:k+2<=k0:=by decide)(hd:aM:=by decide)(hs:NA:=by rfl)(h1:RK:=by rfl)(h2:(vo pos nu).any (·.1)=false:=by rfl)(h3:(uO pos Ak).all (·.1.isSome)=true:=by rfl)(h4:(uO pos Ak).any (·.1.isNone)=false:=by rfl)(h5:(uO pos Ak).filterMap (·.1)=[lV]:=by rfl):
  XE X Sn (zBi m fe):=by
 obtain⟨t,g1,g2⟩:=he;refine⟨_,qfo c hr hg hm hx g1 hk hd hs h1 h2 h3 h4 h5,λG0 H0 G ω σ H r Q o er kk=>?_⟩;obtain⟨d,q,er⟩:=bnd er;refine g2 G0 H0 G ω σ H d _ o q λv G1 H1 x1 y1=>?_;cases d with
 | lst ds=>
  have er':(if ds.length<64/\ds.all acR=true then some (R.fr MB)else none)=some r:=er
  by_cases z:ds.length<64/\ds.all acR=true
  ·rw[iP]at er'
   cases er';obtain⟨p,vs,rfl,w1,w2⟩:=y1.lst x1.gh;refine⟨p,vs,G1,ds,rfl,w1,x1.gh,w2,by rw[<- w2.len];exact z.1,wM.mp z.2,λG2 H2 l x2 n2 n1=>?_⟩;have x3:=Ext.hide x2.gh n2 (.lst ((XX (λz:D×V=>zBv m z.1) (ds.zip vs)).map (·.2)));exact kk _ G2 _ CI ⟨l,_,rfl,x1.hh.free n1,x2.gh.free n2,qe,qcy (w2.mono x2.gg)⟩
  ·rw[iw]at er';cases er'
 | _=>cases er
end Hk
namespace Hk
open PySem L2
noncomputable def skR(m:ci)(o:dU):Option R:=o.bind (zCk m)
section
variable{m:List D->Option O}{f:FD}{ω:WSt}{d:D}{i:Nat}{ks:List Int}{ds:List D}
theorem qb1:zBi m f ω=skR m (f ω):=rfl
theorem qdG:iDk i ω=zCG ω[i]?:=rfl
theorem qeu:zCG (some ↥El)=some NO:=rfl
theorem qk0(h:ds.length<64)(h':∀d∈ds,keyOk m d=true):skR m Qe=some (.fr MB):=vH ⟨h,wM.mpr h'⟩
end
noncomputable def zBx:D->D->Option R
 | .lst xs,.int k=>if (0<=k/\k<=1000)/\xs.length<=1000 then some (.fr (zk k.toNat xs).flatten)else none
 | _,_=>none
theorem XB.rep{K:zC}{H:Hp}{ds:aY}{vs:bg}(h:BJ):∀n:Nat,XB K H (zk n ds).flatten (zk n vs).flatten
 | 0=>rfl
 | n+1=>by
  rw[yU,yU,yB,yB];exact h.app (h.rep n)
theorem qhi{K:zC}:OpV K rRep zBx:=by
 intro G H x y d v u Q s e hx hy k
 match x,y,e with
 | .lst xs,.int n,e=>
  unfold zBx at e
  dsimp only at e
  by_cases z:(0<=n/\n<=1000)/\xs.length<=1000
  ·rw[iP]at e
   cases e;obtain⟨a,vs,rfl,h1,h2⟩:=hx.lst s;cases hy.int;have hz:vs.length*n.toNat<=sizeLine:=by
    rw[<- h2.len];have:=Nat.mul_le_mul z.2 (show n.toNat<=1000 by omega);rw[vh];omega
   refine⟨a,n,vs,rfl,rfl,h1,∅,∅,hz,At⟩;exact k _ G _ aa6 ⟨p,_,rfl,hp,s.free hp,qe,h2.rep _⟩
  ·rw[iw]at e;cases e
section
variable{X:Cx}{a b:vW}{pos:Pos}{f g:FD}
theorem qj4(ha:dS)(hb:iG):XE X RD (Y9 zBx f g):=q31 qjr qhi ha hb
end
theorem qcN{ds:aY}{k:Int}(h0:0<=k)(h1:k<=1000)(h2:ds.length<=1000):zBx fQ md=some (.fr (zk k.toNat ds).flatten):=vH ⟨⟨h0,h1⟩,h2⟩
def rIdx:V->List V->Hp->VK->Prop:=λx vs H Q=>∃(l:vF) (ns:af) (k:Int) (j:Nat),x=.ref l/\vs=[md]/\H l=some HQ/\zCT k ns=some j/\Q B4 H
theorem qg3{X:Cx}:MtM X "list.index" rIdx:=by
 intro pins s σ H x vs v us Q I rx rv h;obtain⟨l,ns,k,j,rfl,rfl,hH,hj,q⟩:=h;cases rx;obtain⟨u,rfl,ru⟩:=rv.one;obtain⟨t,rfl⟩:=ru;obtain⟨z,its,n,r,hl,e⟩:=I.lstM hH;obtain⟨e1,e2⟩:=qbj (k:=k) r;rw[hj]at e2;obtain⟨a,b,c⟩:=PySem.W.kf_at_spec e2;refine ux F.slot_list_index fR F.entry_list_index (F.args_list_index_2 _ _)
  (MeetsSeq.list_index l its.toArray n (.int k t) (PyProof.Rows.isInt k) (λy hy=>PySem.W.kf_eq e1 y ⇑hy) j ⇑a (by have:=zAD;omega) ⇑b (λi hi hlt=>(by simpa using c i ⇑hi hlt))) JE
 exact⟨B4,H,jG,bD,q⟩
noncomputable def idxD:D->D->Option R
 | .lst ds,.int k=>(intsOf ds).bind λns=>(zCT k ns).map λ(j:Nat)=>.sh B4
 | _,_=>none
noncomputable def fIdx(f g:FD):FE:=λω=>(f ω).bind λd=>(g ω).bind λc=>idxD d c
section
variable{X:Cx}{o e:vW}{apos cpos:Pos}{f g:FD}
theorem qeY(ho:XV X o f)(he:XD X e g)(hbase:uU o "index" X.env nR=eval o X.env:=by rfl)(hfew:((vo cpos nu).all (λx=>!x.1)&&(uO cpos kR).all ie
   && decide (([e]:List vW).length+([]:List uN).length+(if ([]:List uN).isEmpty then 0 else 1)<30))=true:=by rfl)
  (hline:iJ=true:=by rfl) (hs:vK [e] X.env=dW::vK [] X.env:=by rfl) (hplain:(vo cpos ck).any (·.1)=false:=by rfl) :
  XE X (.Call (.Attribute o "index" apos) [e] [] cpos) (fIdx f g):=by
 obtain⟨t,h1,h2⟩:=ho;obtain⟨u,h3,h4⟩:=he;refine⟨_,q2m PySem.F.plainAttrs_list PySem.F.slot_list_index PySem.F.type_list_index qg3 h1 (qj h3 qq hs) hbase hfew hline hs hplain,Ks⟩;obtain⟨d,q1,e⟩:=bnd e;obtain⟨c,q2,e⟩:=bnd e;obtain⟨ds,k,rfl,rfl,e⟩:∃ds k,d=.lst ds/\c=.int k/\((intsOf ds).bind λns=>(zCT k ns).map λ(j:Nat)=>R.sh B4)=some r:=by
  cases d with
  | lst ds=>
   cases c with
   | int k=>exact⟨ds,k,rfl,rfl,e⟩
   | _=>cases e
  | _=>cases e
 obtain⟨ns,q3,e⟩:=bnd e;obtain⟨j,q4,e⟩:=mpd e;subst e;have hds:=q1w q3;subst hds;refine h2 G0 H0 G ω σ H _ _ ow q1 λv G1 H1 x1 y1=>?_;obtain⟨p,vs,rfl,g1,g2⟩:=y1.lst x1.gh;have hv:=g2.of_ints;subst hv;refine⟨.inl ⟨rfl,_,SqL.of g1⟩,h4 G0 H0 G1 ω σ H1 _ _ Q6 q2 λw G2 H2 x2 y2=>?_⟩;cases (show w=.int k from y2);exact⟨p,ns,k,j,rfl,rfl,x2.hh _ _ g1,q4,kk _ G2 H2 eO rfl⟩
end
theorem qcz{α:Type}{xs:bH}{k:Int}{x:α}(h0:0<=k)(h1:k<Mf)(h:xs[k.toNat]?=some x):atI xs k=some x:=by
 unfold atI ixN;rw[vH h0,Qc,yW];exact h
section
variable{X:Cx}
theorem qin{x2 x3 x4:Str}{o0 o1 o2 o3 o4 o4b e0 e1 e0b e1b e0':vW}{q1 q2 q3 q4 q5 q6 q7 q8 q9 q10 q11 q12 q13 q14 q15 a1 a2 c1 c2:Pos}{g0 g1:FD}(hu:gM)(hp:jv)(hc:cV)(hN:X.N.Nodup)(i2:X.N[2]?=some x2)(i3:X.N[3]?=some x3)(i4:X.N[4]?=some x4)(l2:Kj)(l3:Ki)(l4:abZ)(f2:jR)(f3:jQ)(f4:Bd)(h0:adm)(h1:adl)(h2:PE X o2 Aq)(h2':PE X o4 Aq)(h2b:PE X o4b Aq)(h3:PE X o3 LV)(h5:PE X e0' Aq)(ha:ada)(hb:XD X e1 g1)(hab:XD X e0b g0)(hbb:XD X e1b g1)(hg0:∀(ω:WSt)e,ω[4]?=some n9->g0 ω=some Bi)(hg1:∀(ω:WSt)e,ω[4]?=some n9->g1 ω=some PZ)(s1:BF:=by rfl)(s2:om:=by rfl)(n0:zCx e0:=by intro _ _;rfl)(n1:zCx e1b:=by intro _ _;rfl)(w1:((vo c1 Mj).all (λx=>!x.1)&&(uO c1 kR).all ie&&decide (([e1]:List vW).length+([]:List uN).length+(if ([]:List uN).isEmpty then 0 else 1)<30))=true:=by rfl)(w2:((vo c2 abz).all (λx=>!x.1)&&(uO c2 kR).all ie&&decide (([e0b]:List vW).length+([]:List uN).length+(if ([]:List uN).isEmpty then 0 else 1)<30))=true:=by rfl)(z1:P4:=by rfl)(z2:B8:=by rfl)(t1:kE:=by rfl)(t2:BS:=by rfl)(p1:(vo c1 ck).any (·.1)=false:=by rfl)(p2:(vo c2 ck).any (·.1)=false:=by rfl)(v1:Jq:=by rfl)(v2:Iz:=by rfl)(y1:∀x,vz o0 X.env x=pure x:=by intro _;rfl)(y2:∀x,vz o1 X.env x=pure x:=by intro _;rfl):
  ∃t,PSs X [.Assign [Ui] n8 q3,.For aeM o0 CC [] q12,
   .For aeL o1 Py [] q14,.Return (some e0') q15] t/\∀(G0:Hp)(H0:Fr)(G:Hp)(σ:St)(H:Hp)(E:Ends)(ts:af)(es:ae),Own X.K G0 H0 G [nP,some (.sh aT),none,none,none] σ H->ts.Nodup->(∀e∈es,e.1∈ts/\e.2∈ts)->ts.length<=1000->es.length<=1000 ->
   (∀G3 H3 p ls ob,XL H0.hp H3->Tab G3 H0 H3 p ts ls LK->E.rt aO Pa)->t E σ H:=by
 obtain⟨ta,k1,k2⟩:=ha;obtain⟨tb,k3,k4⟩:=hb;obtain⟨ta',k1',k2'⟩:=hab;obtain⟨tb',k3',k4'⟩:=hbb;have hu:=hu1 hu;refine⟨_,ql Qh (ql ny
  (ql (q2y hp hc (q26 h1) aaO (ql fz
   eU) y2) RW)),λG0 H0 G σ H E ts es ow cd1 cd2 cd3 cd4 kk=>?_⟩
 have no:WG br:=zBQ (x:=none);have hlen:σ.length=5:=ow.len.symm;obtain⟨v0,r0,A0,vs0,rfl,r1,r2⟩:=ow.sh 0 _ rfl;obtain⟨v1,r3,A1,vs1,rfl,r4,r5⟩:=ow.sh 1 _ rfl;have hvs0:=r2.of_ints;subst hvs0;intro p hpn;have o1:Own X.K G0 H0 G br (σ.set 2 bQ) iS:=(ow.free no ET A5).other no λw z=>by cases z
 have T0:Tab G H0 iS p (ts.take 0) [] OR:=⟨qe,ET,A5,rfl,rfl,λj l xs h=>(by simp at h),λl h=>(by cases h),xQ⟩;refine⟨.ref A0,by rw[zI (by decide)];exact r0,A0,rfl,MV,λn m σ2 H2=>∃ls,Own X.K G0 H0 G br σ2 H2/\σ2[2]?=some bQ/\Tab G H0 H2 p (ts.take n) ls OQ/\n<=ts.length/\m=ts.length-n,
  ⟨_,[],o1,yV (by rw[hlen];decide),T0,pB,rfl⟩,?_⟩
 rintro n m σ2 H2 ⟨ls,o2,s22,T2,hn,rfl⟩
 by_cases hlt:n<ts.length
 ·have hq:=o2.gh _ _ r1
  refine .inr ⟨⟨_,.int ts[n],SqL.of hq,by rw[zP,oZ];rfl⟩,λσ3 H3=>∃ls,Own X.K G0 H0 G br σ3 H3/\σ3[2]?=some bQ/\Tab G H0 H3 p acA ls L8,
   λσ3 H3 ⟨ls,b1,b2,b3⟩=>DA,λy H3 hy=>?_⟩
  obtain⟨rfl,hy⟩:=hy;have hy:=hy _ Jb;rw[zP,oZ]at hy;cases hy;have hl2:σ2.length=5:=o2.len.symm;refine⟨by show 0<=sizeLine;exact zn _,λl hl=>?_⟩;refine⟨.ref p,by rw[zI (by decide)];exact s22,.int ts[n],yV (by rw[hl2];decide),?_⟩;have nk:ts[n]∉ts.take n:=λz=>by
   obtain⟨j,hj,ej⟩:=zY.mp z;rw[xD]at ej;have hj':j<n:=by rw[zf]at hj;omega
   have:=(wK cd1).mp ej;omega
  obtain⟨H4,d1,d2,T4⟩:=T2.put nk hl o2.gh o2.ext.hh (by rw[zf];omega);refine⟨p,H4,rfl,d1,ls++[l],?_,by rw[zI (by decide)];exact s22,?_⟩
  ·subst d2
   exact((o2.free no acM UN).free no T2.gp T2.hp).other no λw z=>by cases z
  ·rw[(xN hlt).symm,zW]
   exact T4
 ·have en:n=ts.length:=∅
  subst en;rw[xh]at T2;refine .inl ⟨⟨_,SqL.of aed,by rw[zB];exact zL _⟩,?_⟩;obtain⟨v1',r3',A1',vs1',rfl,r4',r5'⟩:=o2.sh 1 _ rfl;have hl5:es.length=vs1'.length:=by have:=r5'.len;rw[zB]at this;exact this
  refine⟨.ref A1',r3',A1',rfl,Mc,λn m σ3 H3=>∃G3 x4,Own X.K G0 H0 G3 cI σ3 H3/\XL G G3/\σ3[2]?=some bQ/\Tab G3 H0 H3 p ts ls Lx /\
   (∀xs∈(es.take n).foldl (Xx ts) (ts.map λ_=>[]),xs.length<=2*n)/\n<=es.length/\m=es.length-n,
   ⟨_,G,none,o2,XL.refl _,s22,T2,λxs hx=>by obtain⟨_,_,rfl⟩:=zi.mp hx;exact zL _,zn _,rfl⟩,?_⟩
  rintro n m σ3 H3 ⟨G3,x4,o3,g3,s32,T3,b3,hn3,rfl⟩
  by_cases hlt3:n<es.length
  ·have hq3:=o3.gh _ _ J4
   have hlv:n<vs1'.length:=by rw[<- hl5];exact hlt3
   refine .inr ⟨⟨_,vs1'[n],ME,UE⟩,λσ4 H4=>∃G4 x4,Own X.K G0 H0 G4 cI σ4 H4/\XL G G4/\σ4[2]?=some bQ/\Tab G4 H0 H4 p ts ls Jh /\
    (∀xs∈(es.take (n+1)).foldl (Xx ts) (ts.map λ_=>[]),xs.length<=2*(n+1)),
    λσ4 H4 ⟨G4,x4,b1,b2,b4,b5,b6⟩=>AM,λy H4 hy=>?_⟩
   obtain⟨rfl,hy⟩:=hy;have hy:=hy _ ME;rw[UE]at hy;cases hy;have hd:(es.map Y4)[n]?=some (Y4 es[n]):=by rw[zP,zA hlt3];rfl
   obtain⟨v,hv1,hv2⟩:=r5'.get hd;rw[UE]at hv1;cases hv1;have hl3:σ3.length=5:=o3.len.symm;have o4:Own X.K G0 H0 G3 [nP,↥aT,none,none,↥(Y4 es[n])] (σ3.set 4 (some vs1'[n])) H4:=o3.setSh (i:=4) (hv2.mono g3);have no4:WG [nP,↥aT,none,none,↥(Y4 es[n])]:=zBQ (x:=some (Y4 es[n]));have s42:(σ3.set 4 (some vs1'[n]))[2]?=some bQ:=by rw[zI (by decide)];exact s32
   obtain⟨in1,in2⟩:=cd2 es[n] (yZ hlt3);refine q73 k2 k4 o4 no4 s42 T3 (hg0 _ es[n] rfl) (hg1 _ es[n] rfl) in1 (λxs hx=>by have:=b3 xs hx;omega) λG5 H5 o5 g5 T5=>?_;have b5:=q25 (2*n) ts _ es[n].1 es[n].2 b3;refine q73 k4' k2' o5 no4 s42 T5 (hg1 _ es[n] rfl) (hg0 _ es[n] rfl) in2 (λxs hx=>by have:=b5 xs hx;omega) λG6 H6 o6 g6 T6=>?_;have b6:=q25 (2*n+1) ts _ es[n].2 es[n].1 b5;have et:es.take (n+1)=es.take n++[es[n]]:=(xN hlt3).symm;refine⟨G6,some (Y4 es[n]),o6,Up,s42,?_,?_⟩
   ·rw[et,wG];exact T6
   ·rw[et,wG]
    intro xs hx;have:=b6 xs hx;omega
  ·have en3:n=es.length:=∅
   subst en3;rw[xh]at T3;refine .inl ⟨⟨_,SqL.of aec,by rw[hl5];exact zL _⟩,?_⟩;have no3:WG cI:=zBQ;refine Ma;exact⟨aO,s32,kk G3 H3 p ls ob o3.ext.hh T3⟩
end
noncomputable def zCw(K:zC):Sp:=λvs H Q _=>∃(G:Hp) (ts:af) (es:ae),XL G H/\XB K G TB vs/\ts.Nodup/\(∀e∈es,e.1∈ts/\e.2∈ts)/\ts.length<=1000/\es.length<=1000 /\
 ∀(p:vF)(ls:cX)(ob:Obj)(H':Hp),XL H H'->H p=none->(∀l∈ls,H l=none)->H' p=some l0->ls.length=ts.length->(∀(j:Nat)l xs,ls[j]?=some l->(nbT ts es)[j]?=some xs->H' l=some gC)->Q aO H'
theorem qjv{X:Cx}{N:cg}{vs:bg}{H:Hp}{Q:VK}{E:XK}{nx:gJ}{t:TS}(hN:ado)(ht:∀(G0:Hp)(H0:Fr)(G:Hp)(σ:St)(H:Hp)(E:Ends)(ts:af)(es:ae),Own X.K G0 H0 G br σ H->ts.Nodup->(∀e∈es,e.1∈ts/\e.2∈ts)->ts.length<=1000->es.length<=1000 ->
   (∀G3 H3 p ls ob,XL H0.hp H3->Tab G3 H0 H3 p ts ls LK->E.rt aO Pa)->t E σ H)
  (h:zCw X.K vs H Q E):t { nx:=nx,rt:=Q } eK H:=by
 obtain⟨G,ts,es,gs,rp,c1,c2,c3,c4,q⟩:=h;have hl:=rp.len;have o0:Own X.K G ou G (entry N.length TB) eK H:=by
  refine fm;unfold entry L2.start;simp only[zD,zB,yN];omega
 rw[hN]at o0;refine ht G ou G _ H _ ts es o0 c1 c2 c3 c4 λG3 H3 p ls ob s3 T=>?_;refine q p ls ob _ Kq T.hp (λl hl=>(T.gl l hl).2) qe T.len.symm λj l xs h1 h2=>?_
 ·rw[qd λy=>by rw[y]at z;exact vP z (by rw[show H p=none from T.hp];exact λw=>by cases w)]
  exact s3 b u z
 ·have hm:l∈ls:=zg h1
  rw[qd λy=>T.pl (by rw[<- y];exact hm)];exact T.lst j l xs h1 h2
def SimR(K:zC)(t:TS)(f:FS)(i:Nat):Prop:=∀G0 H0 G ω σ H ω' ds(E:Ends),Own K G0 H0 G ω σ H->f ω=some lT->ω'[i]?=some di ->
 (∀G' σ' H' v,Own K G0 H0 G' ω' σ' H'->σ'[i]?=some lO->E.rt v H')->t E σ H
def XSr(X:Cx)(st:pz)(f:FS)(i:Nat):Prop:=∃t,PSs X st t/\SimR X.K t f i
section
variable{X:Cx}{st:vm}{rest:List vm}{i:Nat}
theorem qhE{e:vW}{pos:Pos}(he:PE X e LU):XSr X [rh] Wg i:=by
 refine⟨_,qy (q0e he),Fg⟩;cases e;obtain⟨l,vs,r1,_⟩:=ow.ow i ds hi;exact⟨_,r1,kk G σ H _ ow r1⟩
theorem q5U{f g:FS}(h:XS X st f)(h':XSr X rest g i):XSr X VE (Xd f g) i:=by
 obtain⟨t,h1,h2⟩:=h;obtain⟨u,h3,h4⟩:=h';refine⟨_,ql h1 h3,Fg⟩;obtain⟨⟨o1,ω1⟩,q,e⟩:=bnd e;refine h2 G0 H0 G ω σ H o1 ω1 _ ow q λG1 σ1 H1 w1 g1=>?_;cases o1 with
 | nx=>exact h4 G0 H0 G1 ω1 σ1 H1 ω' ds E w1 e hi kk
 | bk=>cases e
 | ct=>cases e
 | rt r=>cases e
end
noncomputable def gLD(xs:af):D:=.lst ig
noncomputable def zDE(K:zC)(f:FS):Sp:=λvs H Q _=>∃(G:Hp) (ts:af) (es:ae) (parts:bP) (w:dh) (ω':WSt),XL G H/\XB K G TB vs/\(ts.Nodup/\(∀e∈es,e.1∈ts/\e.2∈ts)/\ts.length<=1000/\es.length<=1000) /\
 f bJ=some lT/\ω'[0]?=some hV/\ω'[4]?=some Mn /\
 ∀(l:vF)(as:cX)(H':Hp),XL H H'->H l=none->(∀a∈as,H a=none/\a≠l)->H' l=some E6->as.length=parts.length->(∀(j:Nat)a xs,as[j]?=some a->parts[j]?=some xs->H' a=some gC)->Q cM H'
theorem q6G{K:zC}{G:Hp}:∀{parts:bP}{vs:bg},XB K G Mt vs->∃as:List vF,vs=as.map V.ref/\as.length=parts.length/\∀(j:Nat)a xs,as[j]?=some a->parts[j]?=some xs->G a=some gC
 | [],_,h=>⟨[],h,rfl,λj a xs z=>by simp at z⟩
 | xs::parts,_,⟨v,r,h1,h2,h3⟩=>by
  obtain⟨as,e1,e2,e3⟩:=q6G h3;obtain⟨a,us,rfl,g,ru⟩:=h2;have hu:=ru.of_ints;subst hu;refine⟨a::as,by rw[h1,e1];rfl,by rw[zJ,zJ,e2],λj b ys z1 z2=>?_⟩;cases j with
  | zero=>simp at z1 z2;subst z1;subst z2;exact g
  | succ j=>exact e3 j b ys ⇑z1 ⇑z2
theorem qj6{X:Cx}{N:cg}{vs:bg}{H:Hp}{Q:VK}{E E2:XK}{nx:gJ}{t:TS}{f:FS}(hN:N.length=8)(ht:SimR X.K t f 4)(h:abt):
  zAv pZ t { nx:=nx,rt:=Q } eK H:=by
 obtain⟨G,ts,es,parts,w,ω',gs,rp,cd,hf,hw0,hw4,q⟩:=h;obtain⟨v0,v1,rfl,r0,r1⟩:=rp.two;have rp2:=rp;obtain⟨A0,vs0,rfl,g0,i0⟩:=r0;have hv:=i0.of_ints;subst hv;have hA0:=gs _ _ g0;have hs:L2.start N [.ref A0,v1]=[BT,LH,none,none,none,none,none,none]:=by
  unfold L2.start;rw[hN];rfl
 rw[hs];refine⟨.ref A0,rfl,v1,rfl,G,ts,es,gs,rp2,cd.1,cd.2.1,cd.2.2.1,cd.2.2.2,λp ls ob H1 s1 hp hls p1 p2 p3=>?_⟩;have nA:A0≠p:=λz=>by rw[z,hp]at hA0;cases hA0
 have nAl:A0∉ls:=λz=>by rw[hls _ z]at hA0;cases hA0
 open Classical in
 let G1:Hp:=λb=>if b=p\/b∈ls then H1 b else none
 have hin:∀b,Cy->G1 b=H1 b:=λb h=>vH h;have hout:∀b,¬Cy->G1 b=none:=λb h=>vJ h;have g1h:XL G1 H1:=λb u z=>by
  by_cases y:b=p\/b∈ls
  ·rw[hin b y]at z;exact z
  ·rw[Pl]at z;cases z
 have gA:G1 A0=none:=hout A0 λz=>z.elim nA nAl;have lx:(nbT ts es).length=ts.length:=by
  unfold nbT;have:∀(l:ae)(x:bP),(l.foldl Ro x).length=x.length:=λl=>by
   induction l with
   | nil=>intro x;rfl
   | cons a r ih=>intro x;rw[Zf,ih];unfold Xx;rw[q3s,q3s]
  rw[this,zB]
 have o1:Own X.K G1 ⟨zAp (·=A0) H1,λ_=>A0⟩ G1 bJ [BT,LH,bQ,none,none,none,none,none] H1:=by
  refine⟨⟨dC,g1h,qcO,acp⟩,rfl,λi d e=>?_,SK,aaE,λi ks ds e=>?_,SK⟩
  ·match i,e with
   | 0,e=>cases e
   | 1,e=>cases e
   | 2,e=>
    cases e;refine⟨aO,rfl,p,ce,rfl,⟨ob,by rw[hin p bC];exact p1⟩,by rw[zB,lx],?_⟩;refine q1y (by rw[zB,lx];exact p2.symm) λj d t h1 h2=>?_;rw[zP]at h1;cases q:(nbT ts es)[j]? with
    | none=>rw[q]at h1;cases h1
    | some xs=>
     rw[q]at h1;cases h1;exact⟨t,_,rfl,by rw[hin t aeJ];exact p3 j t xs h2 q,XB.ints xs⟩
   | 3,e=>cases e
   | 4,e=>cases e
   | 5,e=>cases e
   | 6,e=>cases e
   | 7,e=>cases e
   | i+8,e=>simp at e
  ·match i,e with
   | 0,e=>cases e
   | 1,e=>cases e
   | 2,e=>cases e
   | 3,e=>cases e
   | 4,e=>cases e
   | 5,e=>cases e
   | 6,e=>cases e
   | 7,e=>cases e
   | i+8,e=>simp at e
  ·match i,e with
   | 0,e=>cases e
   | 1,e=>cases e
   | 2,e=>cases e
   | 3,e=>cases e
   | 4,e=>cases e
   | 5,e=>cases e
   | 6,e=>cases e
   | 7,e=>cases e
   | i+8,e=>simp at e
  ·match i,e with
   | 0,e=>cases e
   | 1,e=>cases e
   | 2,e=>cases e
   | 3,e=>cases e
   | 4,e=>cases e
   | 5,e=>cases e
   | 6,e=>cases e
   | 7,e=>cases e
   | i+8,e=>simp at e
  ·match i,e with
   | 0,e=>
    cases e;refine⟨_,rfl,s1 _ _ hA0,gA,qbd rfl,XB.ints ts,λj fs e _=>?_,λj fs e=>?_⟩
    ·match j,e with
     | 0,_=>rfl
     | 1,e=>cases e
     | 2,e=>cases e
     | 3,e=>cases e
     | 4,e=>cases e
     | 5,e=>cases e
     | 6,e=>cases e
     | 7,e=>cases e
     | j+8,e=>simp at e
    ·match j,e with
     | 0,e=>cases e
     | 1,e=>cases e
     | 2,e=>cases e
     | 3,e=>cases e
     | 4,e=>cases e
     | 5,e=>cases e
     | 6,e=>cases e
     | 7,e=>cases e
     | j+8,e=>simp at e
   | 1,e=>cases e
   | 2,e=>cases e
   | 3,e=>cases e
   | 4,e=>cases e
   | 5,e=>cases e
   | 6,e=>cases e
   | 7,e=>cases e
   | i+8,e=>simp at e
 refine ht _ _ _ _ _ H1 ω' _ _ o1 hf hw4 λG2 σ2 H2 v o2 hv=>?_;obtain⟨l,vs,r1',r2',r3',r4',r5'⟩:=o2.ow 4 _ hw4;rw[hv]at r1';cases r1';obtain⟨as,rfl,a2,a3⟩:=q6G r5';obtain⟨us,z1,z2,z3,z4,z5,z6,z7⟩:=o2.pw 0 _ hw0;have nlA:l≠A0:=λz=>z7 4 _ hw4 (by rw[hv,z]);have H1l:H1 l=none:=by
  have:zAp (·=A0) H1 l=none:=r4';rw[q4q (P:=(·=A0)) nlA]at this;exact this
 have nw:∀a∈as,H a=none/\a≠l:=λa ha=>by
  obtain⟨j,hj,rfl⟩:=zY.mp ha;have hj2:j<parts.length:=by rw[<- a2];exact hj
  have ga:=a3 j _ _ B9 Gv;refine⟨?_,λz=>by rw[z,r3']at ga;cases ga⟩;cases q:H as[j]with
  | none=>rfl
  | some u=>
   exfalso;have nA0:as[j]≠A0:=λz=>by rw[z,z3]at ga;cases ga
   have h1:H1 as[j]=some u:=s1 _ _ q
   by_cases y:as[j]=p\/as[j]∈ls
   ·rcases y with y|y
    ·rw[y,hp]at q;cases q
    ·rw[hls _ y]at q;cases q
   ·have:=o2.ext.new as[j] (hout _ y) (by
     show zAp (·=A0) H1 as[j]≠none;rw[q4q (P:=(·=A0)) nA0,h1];exact λw=>by cases w)
    rw[this]at ga;cases ga
 have sm:XL H H2:=λb u z=>by
  by_cases y:b=A0
  ·subst y
   rw[hA0]at z;cases z;have:us=ts.map V.int:=z5.of_ints;rw[<- this];exact z2
  ·exact o2.ext.hh b u (by
    show zAp (·=A0) H1 b=some u;rw[q4q (P:=(·=A0)) y];exact s1 b u z)
 have Hl:H l=none:=by
  cases q:H l with
  | none=>rfl
  | some u=>have:=s1 _ _ q;rw[H1l]at this;cases this
 exact q l as H2 sm Hl nw r2' a2 λj a xs h1 h2=>o2.gh _ _ (a3 j a xs h1 h2)
section
variable{X:Cx}
theorem q4r{s:vm}{rest:pz}{f:FS}{u:TS}(h:XS X s f)(hu:PSs X rest u):∃t,PSs X (s::rest) t/\∀G0 H0 G ω σ H ω' E,Own X.K G0 H0 G ω σ H->f ω=some lT->(∀G' σ' H',Own X.K G0 H0 G' ω' σ' H'->u E σ' H')->t E σ H:=by
 obtain⟨t,h1,h2⟩:=h;exact⟨_,ql h1 hu,λG0 H0 G ω σ H ω' E o e k=>h2 G0 H0 G ω σ H .nx ω' _ o e λG' σ' H' o' _=>k G' σ' H' o'⟩
end
theorem qiK{f g:FS}{ω ω':WSt}(h:Xd f g ω=some lT):∃ω1,f ω=some QA/\g ω1=some lT:=by
 obtain⟨⟨o,ω1⟩,q,e⟩:=bnd h;cases o with
 | nx=>exact⟨ω1,q,e⟩
 | _=>cases e
abbrev zB9(P:vU)(w:vY)(K:zC)(mg:bG)(base:vk)(k:Nat)(f:vF)(d:vO)(x:Str)(ps:cg)(sp:Sp):Prop :=
 FnOk P w K mg base CX0 k f d ps sp/\mg x=some iq/\xl K iq=true/\Binds K d ps []
theorem qig{X:Cx}{sts:pz}{N:cg}{vs:bg}{H:Hp}{Q:VK}{E:XK}{nx:gJ}(hN:ado)(h:zCw X.K vs H Q E)(c:∃t,PSs X sts t/\∀(G0:Hp)(H0:Fr)(G:Hp)(σ:St)(H:Hp)(E:Ends)(ts:af)(es:ae),Own X.K G0 H0 G br σ H->ts.Nodup->(∀e∈es,e.1∈ts/\e.2∈ts)->ts.length<=1000->es.length<=1000 ->
   (∀G3 H3 p ls ob,XL H0.hp H3->Tab G3 H0 H3 p ts ls LK->E.rt aO Pa)->t E σ H) :
  ∃t,PSs X sts t/\t { nx:=nx,rt:=Q } eK H:=by
 obtain⟨t,p,ht⟩:=c;exact⟨t,p,qjv hN ht h⟩
theorem qho{X:Cx}{s1:vm}{rest:pz}{f:FS}{E2:XK}{N:cg}{vs:bg}{H:Hp}{Q:VK}{E:XK}{nx:gJ}(hN:N.length=8)(h:abt)(p1:PS X s1 pZ)(r:XSr X rest f 4):∃t,PSs X (s1::rest) t/\t { nx:=nx,rt:=Q } eK H:=by
 obtain⟨t,p,ht⟩:=r;exact⟨_,ql p1 p,qj6 hN ht h⟩
theorem qfu{K:zC}{vs:bg}{H:Hp}{Q:VK}{E:XK}(h:zCw K vs H Q E):vs.length=2:=by
 obtain⟨G,ts,es,_,rp,_⟩:=h;rw[<- rp.len];rfl
theorem qfY{K:zC}{f:FS}{vs:bg}{H:Hp}{Q:VK}{E:XK}(h:zDE K f vs H Q E):vs.length=2:=by
 obtain⟨G,ts,es,parts,w,ω',_,rp,_⟩:=h;rw[<- rp.len];rfl
abbrev GrOk(fG:FS)(ts:af)(es:ae)(parts:bP):Prop:=(ts.Nodup/\(∀e∈es,e.1∈ts/\e.2∈ts)/\ts.length<=1000/\es.length<=1000) /\
 ∃ω',fG bJ=some lT/\ω'[0]?=some hV/\ω'[4]?=some Mn
abbrev ToldG(H:Hp)(Q:VK)(parts:bP):Prop:=∀(l:vF)(as:cX)(H':Hp),XL H H'->H l=none->(∀a∈as,H a=none/\a≠l)->H' l=some E6->as.length=parts.length->(∀(j:Nat)a xs,as[j]?=some a->parts[j]?=some xs->H' a=some gC)->Q cM H'
noncomputable def spGb(K:zC)(f1:FS)(fA:FD)(fG:FS):Sp:=λvs H Q _=>∃(G:Hp) (ds:aY) (ts:af) (ties:ae) (parts:bP) (ω1:WSt),XL G H/\XB K G ds vs/\ds.length=4/\f1 (entry 5 ds)=some QA/\ω1[0]?=some ↥aw/\fA ω1=some Gj/\GrOk fG ts ties parts/\ToldG H Q parts
theorem qg7{K:zC}{f1:FS}{fA:FD}{fG:FS}{vs:bg}{H:Hp}{Q:VK}{E:XK}(h:spGb K f1 fA fG vs H Q E):vs.length=4:=by
 obtain⟨G,ds,ts,ties,parts,ω1,_,rp,h4,_⟩:=h;rw[<- rp.len];exact h4
theorem q3D{K:zC}{G H:Hp}{N:cg}{ds:aY}{vs:bg}(gs:AF)(rp:oi)(hl:vs.length<=N.length):Own K G ou G Hq eK H:=by
 have hl':=rp.len;refine fm;unfold entry L2.start;simp only[zD,zB,yN];omega
theorem qj0{X:Cx}{s1 s2:vm}{eA:vW}{f1:FS}{fA:FD}{fG:FS}{E2:XK}{N:cg}{vs:bg}{H:Hp}{Q:VK}{E:XK}{nx:gJ}(hN:ado)(h:spGb X.K f1 fA fG vs H Q E)(h1:XS X s1 f1)(hA:XD X eA fA)(p2:∀tA,PE X eA tA->PS X s2 (zCC (zAa (zDE X.K fG) [] E2 (Xm LX (Xm tA Wh))))):∃t,PSs X [s1,s2] t/\t { nx:=nx,rt:=Q } eK H:=by
 obtain⟨G,ds,ts,ties,parts,ω1,gs,rp,h4,c1,c2,c3,⟨cd,ω',g1,g2,g3⟩,q⟩:=h;obtain⟨tA,a1,a2⟩:=hA;obtain⟨t,b1,b2⟩:=q4r h1 (qy (p2 tA a1));have hl:=rp.len;have o0:=q3D (N:=N) gs rp (by rw[<- hl,h4,hN];decide);rw[hN]at o0;refine AA;obtain⟨v0,s0,r0⟩:=o1.sh 0 _ c2;refine⟨v0,s0,a2 _ _ _ _ _ _ _ _ o1 c3 λv G2 H2 x y=>?_⟩;refine⟨G2,ts,ties,parts,none,ω',x.gh,XB.cons (r0.mono x.gg) (XB.cons y XB.nil),cd,g1,g2,g3,λl as H' s' l1 l2 l3 l4 l5=>?_⟩;have s02:XL H H2:=o1.ext.hh.trans x.hh;exact q l as H' (s02.trans s') (s02.free l1) (λa ha=>⟨s02.free (l2 a ha).1,(l2 a ha).2⟩) l3 l4 l5
noncomputable abbrev zAR:=vF×vF×List vF
noncomputable abbrev zAf:=Int×List af
structure Lv (H0 H:Hp) (p:vF) (ls:List zAR) (rs:List zAf):Prop where
 top:H p=some (.lst (ls.map λx=>V.ref x.1))
 hp:H0 p=none
 len:ls.length=rs.length
 row:∀(j:Nat)(x:zAR)(r:zAf),ls[j]?=some x->rs[j]?=some r->H x.1=some (.tup [.int r.1,.ref x.2.1])/\H x.2.1=some (.lst (x.2.2.map V.ref))/\x.2.2.length=r.2.length/\∀(i:Nat)a xs,x.2.2[i]?=some a->r.2[i]?=some xs->H a=some (.lst (xs.map V.int))
 new:∀x∈ls,H0 x.1=none/\H0 x.2.1=none/\∀a∈x.2.2,H0 a=none/\a≠x.2.1
 np:∀x∈ls,(x.1≠p/\x.2.1≠p/\∀a∈x.2.2,a≠p)/\H x.1≠none/\H x.2.1≠none/\∀a∈x.2.2,H a≠none
 apart:∀(i j:Nat)(x y:zAR),ls[i]?=some x->ls[j]?=some y->i≠j->∀b,(b=x.2.1\/b∈x.2.2)->¬(b=y.2.1\/b∈y.2.2)
 same:XL H0 H
theorem Lv.more{H0 H H1:Hp}{p l t:vF}{as:cX}{ls:List zAR}{rs:Im}{b:Int}{parts:bP}(T:Lv H0 H p ls rs)(s1:XL H H1)(hl:H l=none)(ha:∀a∈as,H a=none/\a≠l)(h1:H1 l=some E6)(hlen:as.length=parts.length)(h2:∀(j:Nat)a xs,as[j]?=some a->parts[j]?=some xs->H1 a=some gC)(ht:H1 t=none):
  Lv H0 (upd nN p gO) p (ls++J8) (rs++[(b,parts)]):=by
 have top1:=s1 _ _ T.top;have npt:p≠t:=λz=>by rw[<- z,top1]at ht;cases ht
 have npl:p≠l:=λz=>by rw[<- z,T.top]at hl;cases hl
 have npa:∀a∈as,a≠p:=λa h z=>by have:=(ha a h).1;rw[z,T.top]at this;cases this
 have ina:∀a∈as,∃xs,H1 a=some dk:=λa h=>by
  obtain⟨j,hj,rfl⟩:=zY.mp h;have hj2:j<parts.length:=by rw[<- hlen];exact hj
  exact⟨_,h2 j _ _ B9 Gv⟩
 have ntl:t≠l:=λz=>by rw[z,h1]at ht;cases ht
 have nta:∀a∈as,a≠t:=λa h z=>by obtain⟨xs,e⟩:=ina a h;rw[z,ht]at e;cases e
 have keep:∀c u,c≠p->H1 c=some u->upd nN p gO c=some u:=λc u hc e=>by
  rw[qd hc,qd λz=>by rw[z,ht]at e;cases e];exact e
 have tt:upd nN p gO t=some aeH:=by
  rw[qd (Ne.symm npt)];exact qe
 have old:∀x∈ls,∀c,(c=x.2.1\/c∈x.2.2)->¬(c=l\/c∈as):=λx hx c hc z=>by
  have e:H c≠none:=by
   rcases hc with rfl|hc
   ·exact(T.np x hx).2.2.1
   ·exact(T.np x hx).2.2.2 c hc
  rcases z with rfl|z
  ·exact e hl
  ·exact e (ha c z).1
 have last:∀(j:Nat)(x:zAR),(ls++J8)[j]?=some x->(j<ls.length/\ls[j]?=some x)\/(j=ls.length/\x=(t,l,as)):=λj x e=>by
  rcases zz j ls.length with z|z
  ·rw[ze z]at e;exact .inl ⟨z,e⟩
  ·rw[zb z]at e
   cases hj:j-ls.length with
   | zero=>rw[hj]at e;cases e;exact .inr QH
   | succ n=>rw[hj]at e;cases e
 refine⟨qe,T.hp,by rw[zD,zD,T.len];rfl,λj x r z1 z2=>?_,λx hx=>?_,λx hx=>?_,λi j x y z1 z2 ne c hc hd=>?_,λc u z=>?_⟩
 ·rcases last j x z1 with⟨y1,y2⟩|⟨rfl,rfl⟩
  ·rw[ze (by rw[<- T.len];exact y1)]at z2
   obtain⟨w1,w2,w3,w4⟩:=T.row j x r y2 z2;obtain⟨⟨n1,n2,n3⟩,_⟩:=T.np x (zg y2);exact⟨keep _ _ n1 (s1 _ _ w1),keep _ _ n2 (s1 _ _ w2),w3,λi a xs e1 e2=>keep _ _ (n3 a (zg e1)) (s1 _ _ (w4 i a xs e1 e2))⟩
  ·rw[zb (by rw[T.len];exact zL _),<- T.len,wY]at z2
   cases z2;exact⟨tt,Qk,hlen,λi a xs e1 e2=>keep _ _ (npa a (zg e1)) (h2 i a xs e1 e2)⟩
 ·rcases zK.mp hx with y|y
  ·exact T.new x y
  ·cases zR.mp y
   exact⟨(T.same.trans s1).free ht,T.same.free hl,λa h=>⟨T.same.free (ha a h).1,(ha a h).2⟩⟩
 ·rcases zK.mp hx with y|y
  ·obtain⟨⟨n1,n2,n3⟩,m1,m2,m3⟩:=T.np x y
   have up:∀c,c≠p->H c≠none->upd nN p gO c≠none:=λc hc e=>by
    cases q:H c with
    | none=>exact vP q e
    | some u=>rw[keep c u hc (s1 _ _ q)];exact λw=>by cases w
   exact⟨⟨n1,n2,n3⟩,up _ n1 m1,up _ n2 m2,λa h=>up a (n3 a h) (m3 a h)⟩
  ·cases zR.mp y
   refine⟨⟨Ne.symm npt,Ne.symm npl,npa⟩,(by rw[tt];exact λw=>(by cases w)),(by rw[Qk];exact λw=>(by cases w)),λa h=>?_⟩;obtain⟨xs,e⟩:=ina a h;rw[keep a _ (npa a h) e];exact λw=>by cases w
 ·rcases last i x z1 with⟨y1,y2⟩|⟨rfl,rfl⟩
  ·rcases last j y z2 with⟨y3,y4⟩|⟨rfl,rfl⟩
   ·exact T.apart i j x y y2 y4 ne c hc hd
   ·exact old x (zg y2) c hc hd
  ·rcases last j y z2 with⟨y3,y4⟩|⟨rfl,rfl⟩
   ·exact old y (zg y4) c hd hc
   ·exact ne rfl
 ·have z':=s1 _ _ (T.same c u z)
  exact keep c u (λy=>by rw[y,T.hp]at z;cases z) z'
noncomputable abbrev tRow(K:zC)(f1:FS)(fA:FD)(fG:FS)(E2:XK):TE:=tTup (Xm LX (Xm (zAa (spGb K f1 fA fG) [] E2 (Xm LW (Xm Aq (Xm LV (Xm LX Wh))))) Wh))
noncomputable def spLv(K:zC)(fS f1:FS)(fA:FD)(fG:FS):Sp:=λvs H Q _=>∃(G:Hp) (ds:aY) (bs:af) (rs:Im) (ω1:WSt),XL G H/\XB K G ds vs/\ds.length=3/\fS DY=some QA/\(∀(i:Nat)d,ds[i]?=some d->ω1[i]?=some ↥d)/\ω1[3]?=some ↥Sl/\bs.length<=1000/\rs.length=bs.length /\
 (∀(j:Nat)b r,bs[j]?=some b->rs[j]?=some r->r.1=b/\∃ts ties ω2,f1 (entry 5 (ds++[eu]))=some (.nx,ω2)/\ω2[0]?=some ↥aw/\fA ω2=some Gj/\GrOk fG ts ties r.2) /\
 ∀p ls H',Lv H H' p ls rs->Q aO H'
theorem qf6{K:zC}{fS f1:FS}{fA:FD}{fG:FS}{vs:bg}{H:Hp}{Q:VK}{E:XK}(h:spLv K fS f1 fA fG vs H Q E):vs.length=3:=by
 obtain⟨G,ds,bs,rs,ω1,_,rp,h4,_⟩:=h;rw[<- rp.len];exact h4
theorem qjD{X:Cx}{s1 s2:vm}{fS f1:FS}{fA:FD}{fG:FS}{E2:XK}{N:cg}{vs:bg}{H:Hp}{Q:VK}{E:XK}{nx:gJ}(hN:N.length=4)(h:spLv X.K fS f1 fA fG vs H Q E)(h1:XS X s1 fS)(p2:PS X s2 (zCC (zCX 1 LR (zCa X.K LV) (Xn 0) UC (tRow X.K f1 fA fG E2)))):∃t,PSs X [s1,s2] t/\t { nx:=nx,rt:=Q } eK H:=by
 obtain⟨G,ds,bs,rs,ω1,gs,rp,h4,c1,c2,c3,cb,cl,cr,q⟩:=h;obtain⟨t,b1,b2⟩:=q4r h1 (qy p2);have hl:=rp.len;have o0:=q3D (N:=N) gs rp (by rw[<- hl,h4,hN];decide);rw[hN]at o0;refine AA;obtain⟨d0,d1,d2,rfl⟩:∃d0 d1 d2,ds=[d0,d1,d2]:=by
  match ds,h4 with
  | [d0,d1,d2],_=>exact abk
 obtain⟨v0,s0,r0⟩:=o1.sh 0 _ (c2 0 d0 rfl);obtain⟨v1,s1',r1⟩:=o1.sh 1 _ (c2 1 d1 rfl);obtain⟨v2,s2',r2⟩:=o1.sh 2 _ (c2 2 d2 rfl);obtain⟨v3,s3,A,vs3,rfl,g3,i3⟩:=o1.sh 3 _ c3;have hv:=i3.of_ints;subst hv;have hA:=o1.gh _ _ g3;refine⟨.ref A,s3,A,rfl,⟨_,SqL.of hA⟩,At⟩;have sg:zBa 1 LR σ1=[none,some v0,LH,some v2]:=by
  unfold zBa;rw[zZ,zZ,zZ,yr,s0,s1',s2'];rfl
 rw[sg];refine⟨λi m σ' H'=>∃ls x,Lv H1 H' p ls (rs.take i)/\σ'=[x,some v0,LH,some v2]/\i<=bs.length/\m=bs.length-i,
  ⟨_,[],none,⟨qe,hp,rfl,λj x r z=>(by simp at z),λx z=>(by cases z),λx z=>(by cases z),λi j x y z=>(by simp at z),Xr hp _⟩,rfl,pB,rfl⟩,?_⟩
 rintro i m σ' H' ⟨ls,x,T,rfl,hi,rfl⟩;have hA':=T.same _ _ hA
 by_cases hlt:i<bs.length
 ·have hlt2:i<rs.length:=by rw[cl];exact hlt
  refine .inr ⟨⟨_,.int bs[i],SqL.of hA',by rw[zP,oZ];rfl⟩,λy H2 hy=>?_⟩;obtain⟨rfl,hy⟩:=hy;have hy:=hy _ (SqL.of hA');rw[zP,oZ]at hy;cases hy
  dsimp only[Xn]
  rw[lg];obtain⟨e1,ts,ties,ω2,m1,m2,m3,m4⟩:=cr i _ _ oZ (zA hlt2);have sg1:XL G1 H2:=o1.gh.trans T.same;refine⟨.int bs[i],rfl,v0,rfl,v1,rfl,v2,rfl,.int bs[i],rfl,G1,[d0,d1,d2,.int bs[i]],ts,ties,rs[i].2,ω2,sg1,XB.cons r0 (XB.cons r1 (XB.cons r2 (XB.cons rfl XB.nil))),rfl,m1,m2,m3,m4,λl as H3 s' l1 l2 l3 l4 l5=>?_⟩;refine⟨by show 2<=sizeLine;rw[vh];decide,λt ht=>?_⟩;have top3:=s' _ _ T.top;have npt:p≠t:=λz=>by rw[<- z,top3]at ht;cases ht
  refine⟨ls.map KQ,by rw[qd npt];exact top3,by rw[zB,T.len,zf,vh];omega,bs.length-(i+1),∅,ls++J8,_,?_,rfl,hlt,rfl⟩;have T2:=T.more (b:=bs[i]) s' l1 l2 l3 l4 l5 ht;have er:rs[i]=(bs[i],rs[i].2):=by rw[<- e1]
  rw[(xN hlt2).symm,er];rw[show ls.map KQ++[V.ref t]=(ls++J8).map λx=>V.ref x.1 by rw[zW];rfl];exact T2
 ·have ei:i=rs.length:=∅
  subst ei;rw[xh]at T;refine .inl ⟨⟨_,SqL.of hA',by rw[zB];omega⟩,?_⟩;have s01:XL H H1:=o1.ext.hh;exact q p ls H' ⟨T.top,s01.free T.hp,T.len,T.row,λx hx=>⟨s01.free (T.new x hx).1,s01.free (T.new x hx).2.1,λa ha=>⟨s01.free ((T.new x hx).2.2 a ha).1,((T.new x hx).2.2 a ha).2⟩⟩,T.np,T.apart,s01.trans T.same⟩
theorem qeM{K:zC}{G H:Hp}{ω:WSt}{σ:St}(gh:AF)(len:ω.length=σ.length)(all:∀(i:Nat)w,ω[i]?=some (some w)->∃d v,w=.sh d/\σ[i]?=some lO/\Rep K G d v):Own K G ou G ω σ H:=by
 refine⟨Ext.refl gh,len,λi d e=>?_,SK,aaE,λi ks ds e=>?_,X6.no λi ds e=>?_⟩
 ·obtain⟨d',v,z,h1,h2⟩:=all i _ e
  cases z;exact QI
 ·obtain⟨d',v,z,_⟩:=all i _ e;cases z
 ·obtain⟨d',v,z,_⟩:=all i _ e;cases z
 ·obtain⟨d',v,z,_⟩:=all i _ e;cases z
 ·obtain⟨d',v,z,_⟩:=all i _ e;cases z
noncomputable abbrev w11(d1 d2 d3 d4:D)(d5 d6 d7 d8 d9:dU):WSt:=[none,↥d1,↥d2,↥d3,↥d4,d5.map W.sh,d6.map W.sh,d7.map W.sh,d8.map W.sh,d9.map W.sh,none]
noncomputable abbrev s11(y0:jP)(v1 v2 v3 v4:V)(y5 y6 y7 y8 y9 y10:jP):St:=[y0,LH,some v2,some v3,some v4,y5,y6,y7,y8,y9,y10]
abbrev zCL(K:zC)(G:Hp)(d:dU)(y:jP):Prop:=∀x,d=some x->∃v,y=some v/\Rep K G x v
theorem Wz{K:zC}{G H:Hp}{d1 d2 d3 d4:D}{d5 d6 d7 d8 d9:dU}{y0:jP}{v1 v2 v3 v4:V}{y5 y6 y7 y8 y9 y10:jP}(gh:AF)(r1:Rep K G d1 v1)(r2:Rep K G d2 v2)(r3:Rep K G d3 v3)(r4:Rep K G d4 v4)(r5:zCL K G d5 y5)(r6:zCL K G d6 y6)(r7:zCL K G d7 y7)(r8:zCL K G d8 y8)(r9:zCL K G d9 y9):Own K G ou G (w11 d1 d2 d3 d4 d5 d6 d7 d8 d9) (s11 y0 v1 v2 v3 v4 y5 y6 y7 y8 y9 y10) H:=by
 refine qeM gh rfl λi w e=>?_;have opt:∀(d:dU)(y:jP),zCL K G d y->∀w,d.map W.sh=some w->∃d' v,w=.sh d'/\y=some v/\Rep K G d' v:=λd y r w e=>by
  cases d with
  | none=>cases e
  | some x=>cases e;obtain⟨v,h1,h2⟩:=r x rfl;exact⟨x,v,rfl,h1,h2⟩
 match i,e with
 | 0,e=>cases e
 | 1,e=>cases e;exact⟨d1,v1,rfl,rfl,r1⟩
 | 2,e=>cases e;exact⟨d2,v2,rfl,rfl,r2⟩
 | 3,e=>cases e;exact⟨d3,v3,rfl,rfl,r3⟩
 | 4,e=>cases e;exact⟨d4,v4,rfl,rfl,r4⟩
 | 5,e=>obtain⟨d',v,a,b,c⟩:=opt d5 y5 r5 w UD;exact k9
 | 6,e=>obtain⟨d',v,a,b,c⟩:=opt d6 y6 r6 w UD;exact k9
 | 7,e=>obtain⟨d',v,a,b,c⟩:=opt d7 y7 r7 w UD;exact k9
 | 8,e=>obtain⟨d',v,a,b,c⟩:=opt d8 y8 r8 w UD;exact k9
 | 9,e=>obtain⟨d',v,a,b,c⟩:=opt d9 y9 r9 w UD;exact k9
 | 10,e=>cases e
 | i+11,e=>simp at e
noncomputable def zAW(n:Nat)(rs:Im):List D:=rs.mapIdx λj r=>.tup [ab9,.lst (if j<n then []else r.2.map gLD)]
structure Le (Hb H:Hp) (p C:vF) (ls:List zAR) (rs:List zAf) (cs:List Int) (n:Nat):Prop where
 top:H p=some (.lst (ls.map λx=>V.ref x.1))
 cst:H C=some (.lst (cs.map V.int))
 bp:Hb p=none
 bc:Hb C=none
 pc:p≠C
 len:ls.length=rs.length
 tup:∀(j:Nat)(x:zAR)(r:zAf),ls[j]?=some x->rs[j]?=some r->H x.1=some (.tup [.int r.1,.ref x.2.1])
 emp:∀(j:Nat)(x:zAR),j<n->ls[j]?=some x->H x.2.1=some (.lst [])
 row:∀(j:Nat)(x:zAR)(r:zAf),n<=j->ls[j]?=some x->rs[j]?=some r->H x.2.1=some (.lst (x.2.2.map V.ref))/\x.2.2.length=r.2.length/\∀(i:Nat)a xs,x.2.2[i]?=some a->r.2[i]?=some xs->H a=some (.lst (xs.map V.int))
 new:∀x∈ls,Hb x.1=none/\Hb x.2.1=none/\∀a∈x.2.2,Hb a=none/\a≠x.2.1
 np:∀x∈ls,(x.2.1≠p/\x.2.1≠C)/\∀a∈x.2.2,a≠p/\a≠C
 apart:∀(i j:Nat)(x y:zAR),ls[i]?=some x->ls[j]?=some y->i≠j->∀b,(b=x.2.1\/b∈x.2.2)->¬(b=y.2.1\/b∈y.2.2)
 same:XL Hb H
section
variable{X:Cx}{N:List Str}{M:Nat}{frees:List Nat}{scope:u4}{tg iter elt:vW}{ifs:List vW}{pos:Pos}{fi:WSt->Option (List D)}{fg:FG}{fc:FT}{fe:FD}
theorem qhf{i:Nat}{x:Str}{pos' spos:Pos}(hc:cV)(hN:X.N.Nodup)(hi':X.N[i]?=some x)(hx:nD)(B:gY)(hi:Fm)(ht:Tame fg)(hb:∀C s H fp,XG aG tg fg/\XTs aG ifs fc/\XD aG elt fe)(hsw:mI:=by rfl)(hs:∀x,vz iter X.env x=pure x:=by intro _;rfl):∃te,PS X En Bv/\zCV X.K te oo:=by
 obtain⟨wi,h1,h2⟩:=hi;have b4:∀C s H fp,PG aG tg Pt/\PTs aG ifs Ps/\PE aG elt Pu:=λC s H fp=>gB;exact⟨_,LI,ES⟩
end
noncomputable def exD:vW:=.Constant .none 0 QM
noncomputable def stD:vm:=.Pass QM
noncomputable def valOf:vm->vW
 | .Assign _ e _=>e
 | .Expr e _=>e
 | .Return (some e) _=>e
 | .If c _ _ _=>c
 | .For _ it _ _ _=>it
 | _=>exD
noncomputable def bodyOf:vm->List vm
 | .For _ _ b _ _=>b
 | .If _ b _ _=>b
 | _=>[]
noncomputable def zAh(i:Nat):vW->vW
 | .Call _ as _ _=>as.getD i exD
 | _=>exD
structure Lf (K:zC) (G H:Hp) (p q:vF) (v1:V) (cn:D) (ls:List zAR) (rs:List zAf) (n:Nat):Prop where
 tp:H p=some (.tup [v1,.ref q])
 cnt:∃Gc,XL Gc H/\Rep K Gc cn v1/\∀x∈ls,Gc x.2.1=none/\∀a∈x.2.2,Gc a=none
 top:H q=some (.lst (ls.map λx=>V.ref x.1))
 len:ls.length=rs.length
 tup:∀(j:Nat)(x:zAR)(r:zAf),ls[j]?=some x->rs[j]?=some r->H x.1=some (.tup [.int r.1,.ref x.2.1])
 emp:∀(j:Nat)(x:zAR),j<n->ls[j]?=some x->H x.2.1=some (.lst [])
 row:∀(j:Nat)(x:zAR)(r:zAf),n<=j->ls[j]?=some x->rs[j]?=some r->H x.2.1=some (.lst (x.2.2.map V.ref))/\x.2.2.length=r.2.length/\∀(i:Nat)a xs,x.2.2[i]?=some a->r.2[i]?=some xs->H a=some (.lst (xs.map V.int))
 new:∀x∈ls,G x.2.1=none/\∀a∈x.2.2,G a=none/\a≠x.2.1
 np:∀x∈ls,x.2.1≠q/\∀a∈x.2.2,a≠q
 apart:∀(i j:Nat)(x y:zAR),ls[i]?=some x->ls[j]?=some y->i≠j->∀b,(b=x.2.1\/b∈x.2.2)->¬(b=y.2.1\/b∈y.2.2)
 same:XL G H
section
variable{K:zC}{G H H':Hp}{p q:vF}{v1:V}{cn:D}{ls:List zAR}{rs:List zAf}{n:Nat}
theorem Lf.mono(T:nG)(s:LY):Lf K G H' p q v1 cn ls rs n :=
 ⟨s _ _ T.tp,by obtain⟨Gc,a,b,c⟩:=T.cnt;exact⟨Gc,a.trans s,b,c⟩,s _ _ T.top,T.len,λj x r h1 h2=>s _ _ (T.tup j x r h1 h2),λj x h1 h2=>s _ _ (T.emp j x h1 h2),λj x r h0 h1 h2=>by
  obtain⟨a,b,c⟩:=T.row j x r h0 h1 h2;exact⟨s _ _ a,b,λi a xs e1 e2=>s _ _ abQ⟩,T.new,T.np,T.apart,T.same.trans s⟩
theorem Lf.live(T:PP){x:zAR}(hx:x∈ls):H x.2.1≠none/\∀a∈x.2.2,H a≠none:=by
 obtain⟨j,hj,rfl⟩:=zY.mp hx;have hj2:j<rs.length:=by rw[<- T.len];exact hj
 obtain⟨a,b,c⟩:=T.row j _ _ pB B9 Gv;refine⟨by rw[a];exact λz=>(by cases z),λe he=>?_⟩;obtain⟨i,hi,rfl⟩:=zY.mp he;have hi2:i<(rs[j]).2.length:=by rw[<- b];exact hi
 rw[c i _ _ Vr (zA hi2)];exact λz=>by cases z
theorem Lf.grow{G':Hp}(T:PP)(x:AJ):Lf K G' H' p q v1 cn ls rs 0:=by
 have M:=T.mono x.hh;exact⟨M.tp,M.cnt,M.top,M.len,M.tup,M.emp,M.row,λy hy=>⟨x.new _ (T.new y hy).1 (T.live hy).1,λa ha=>⟨x.new _ ((T.new y hy).2 a ha).1 ((T.live hy).2 a ha),((T.new y hy).2 a ha).2⟩⟩,M.np,M.apart,x.gh⟩
theorem Lf.reG{G':Hp}(T:nG)(nw:∀x∈ls,G' x.2.1=none/\∀a∈x.2.2,G' a=none)(s:XL G' H):Lf K G' H p q v1 cn ls rs n :=
 ⟨T.tp,T.cnt,T.top,T.len,T.tup,T.emp,T.row,λx hx=>⟨(nw x hx).1,λa ha=>⟨(nw x hx).2 a ha,((T.new x hx).2 a ha).2⟩⟩,T.np,T.apart,s⟩
noncomputable def zCB(cn:D)(n:Nat)(rs:Im):D:=.tup [cn,.lst (zAW n rs)]
theorem Lf.reads(T:nG):Rep K H (zCB cn n rs) aO:=by
 obtain⟨Gc,c1,c2,_⟩:=T.cnt;refine⟨p,_,rfl,T.tp,XB.cons (c2.mono c1) (XB.cons ⟨q,_,rfl,T.top,?_⟩ XB.nil)⟩;rw[show ls.map KQ=(ls.map (·.1)).map V.ref by rw[yM];rfl];refine q1y (by unfold zAW;rw[Z9,zB];exact T.len.symm) λj d t h1 h2=>?_;rw[zP]at h2;cases qx:ls[j]? with
 | none=>rw[qx]at h2;cases h2
 | some x=>
  rw[qx]at h2;cases h2;unfold zAW at h1;rw[ww]at h1;cases qr:rs[j]? with
  | none=>rw[qr]at h1;cases h1
  | some r=>
   rw[qr]at h1;cases h1;refine⟨x.1,_,rfl,T.tup j x r qx qr,XB.cons rfl (XB.cons ?_ XB.nil)⟩
   by_cases hn:j<n
   ·rw[vH hn]
    exact⟨x.2.1,[],rfl,T.emp j x hn qx,XB.nil⟩
   ·rw[vJ hn]
    obtain⟨a1,a2,a3⟩:=T.row j x r ∅ qx qr;refine⟨x.2.1,_,rfl,a1,q1y (by rw[zB];exact a2.symm) λi d t e1 e2=>?_⟩;rw[zP]at e1;cases qp:r.2[i]? with
    | none=>rw[qp]at e1;cases e1
    | some xs=>
     rw[qp]at e1;cases e1;exact⟨t,_,rfl,a3 i t xs e2 qp,XB.ints xs⟩
noncomputable abbrev tLv2(K:zC):TE:=tOp (rIxT K) (tOp (rIxL K) (tOp (rIxT K) (Xk 5) (tC pK)) (Xk 9)) (tC pK)
noncomputable abbrev tEm2(K:zC):TS:=zAv (tFor (zCa K (tLv2 K)) (Xn 10) (zAy (tBM0 K "list" zB5 (Xk 10)))) (zAy (tBM0 K "list" zB5 (tLv2 K)))
theorem qj3{y0:jP}{v1' v2 v3 v4:V}{y6 y7 y8 y10:jP}{E:Ends}(T:nG)(hn:n<rs.length)(k:∀H' y10,(∀G',Lf K G' H p q v1 cn ls rs n->Lf K G' H' p q v1 cn ls rs (n+1))->E.nx jz H'):
  tEm2 K E jz H:=by
 have hn':n<ls.length:=by rw[T.len];exact hn
 obtain⟨x,hx⟩:∃x,ls[n]?=some x:=⟨_,zA hn'⟩;obtain⟨r,hr⟩:∃r,rs[n]?=some r:=⟨_,zA hn⟩;have hm:=zg hx;obtain⟨w1,w2,w3⟩:=T.row n x r bX hx hr;have ina:∀a∈x.2.2,∃xs,H a=some dk:=λa h=>by
  obtain⟨j,hj,rfl⟩:=zY.mp h;have hj2:j<r.2.length:=by rw[<- w2];exact hj
  exact⟨_,w3 j _ _ B9 Gv⟩
 have nla:x.2.1∉x.2.2:=λz=>((T.new x hm).2 _ z).2 rfl;have at1:atI Dm cR=some (.ref x.1):=qcz ∅ (by rw[zB];omega) (by rw[yk,zP,hx];rfl);have ix:∀H2,H2 p=some BB->H2 q=some (.lst Dm)->H2 x.1=some MO->∀y10 Q,Q aa7 H2->tLv2 K jz H2 Q:=λH2 e0 e1 e2 y10 Q w=>
  ⟨aO,rfl,p,_,1,OO,rfl,rfl,SqT.of e0,rfl,GF,rfl,q,_,cR,.ref x.1,rfl,rfl,SqL.of e1,at1,x.1,_,1,aa7,rfl,rfl,SqT.of e2,rfl,w⟩
 have tx:=T.tup n x r hx hr;refine ix H T.tp T.top tx y10 _ ⟨x.2.1,rfl,⟨_,SqL.of w1⟩,λi m σ2 H2=>∃y10,σ2=s11 y0 v1' v2 v3 v4 bQ y6 y7 y8 acF y10/\(∀b,b∉x.2.2->H2 b=H b)/\(∀a∈x.2.2,∃xs,H2 a=some dk)/\i<=x.2.2.length/\m=x.2.2.length-i,
  ⟨_,y10,rfl,iH,ina,pB,rfl⟩,?_⟩
 rintro i m σ2 H2 ⟨z10,rfl,u1,u2,hi,rfl⟩;have hl2:H2 x.2.1=some (.lst (x.2.2.map V.ref)):=by rw[u1 _ nla];exact w1
 by_cases hlt:i<x.2.2.length
 ·refine .inr ⟨⟨_,.ref x.2.2[i],SqL.of hl2,by rw[zP,oZ];rfl⟩,λσ3 H3=>∃y10,σ3=s11 y0 v1' v2 v3 v4 bQ y6 y7 y8 acF y10/\(∀b,b∉x.2.2->H3 b=H b)/\(∀a∈x.2.2,∃xs,H3 a=some dk),
   λσ3 H3 ⟨y,b1,b2,b3⟩=>⟨x.2.2.length-(i+1),∅,y,b1,b2,b3,hlt,rfl⟩,λv H3 hv=>?_⟩
  obtain⟨rfl,hv⟩:=hv;have hv:=hv _ (SqL.of hl2);rw[zP,oZ]at hv;cases hv;have mem:x.2.2[i]∈x.2.2:=yZ hlt;obtain⟨xs,ex⟩:=u2 _ mem;refine⟨.ref x.2.2[i],rfl,.inl ⟨rfl,_,SqL.of ex⟩,x.2.2[i],xs,rfl,rfl,ex,some (.ref x.2.2[i]),rfl,kP,JJ⟩
  ·rw[qd λz=>hb (by rw[z];exact mem)];exact u1 b hb
  ·by_cases z:a=x.2.2[i]
   ·rw[z];exact⟨[],qe⟩
   ·rw[qd z];exact u2 a ha
 ·refine .inl ⟨⟨_,SqL.of hl2,by rw[zB];omega⟩,?_⟩
  have nt:∀b ts,H b=some (.tup ts)->b∉x.2.2/\b≠x.2.1:=λb ts e=>by
   refine⟨Fq,Fq⟩
   ·obtain⟨xs,e'⟩:=ina _ z;rw[e]at e';cases e'
   ·rw[z,w1]at e;cases e
  have nqq:q∉x.2.2:=λz=>(T.np x hm).2 q z rfl;have tp2:H2 p=some BB:=by rw[u1 p (nt _ _ T.tp).1];exact T.tp
  have top2:H2 q=some (.lst Dm):=by rw[u1 q nqq];exact T.top
  have tx2:H2 x.1=some MO:=by rw[u1 _ (nt _ _ tx).1];exact tx
  refine ix H2 tp2 top2 tx2 z10 _ ⟨.inl ⟨rfl,_,SqL.of hl2⟩,x.2.1,_,rfl,rfl,hl2,k _ z10 λG T=>?_⟩;have other:∀(j:Nat)(y:zAR),ls[j]?=some y->j≠n->∀b,(b=y.2.1\/b∈y.2.2)->b≠x.2.1/\b∉x.2.2:=λj y e1 ne b hb=>by
   have:=T.apart j n y x e1 hx ne b hb;exact⟨λz=>this Ng,λz=>this (.inr z)⟩
  have keep:∀b,b≠x.2.1->b∉x.2.2->upd H2 x.2.1 iD b=H b:=λb h1 h2=>by rw[qd h1,u1 b h2]
  have keepG:∀(Gc:Hp),XL Gc H->Gc x.2.1=none->(∀a∈x.2.2,Gc a=none)->XL Gc (upd H2 x.2.1 iD):=λGc s g1 g2 b u z=>by
   rw[keep b (λy=>by rw[y,g1]at z;cases z) λy=>by rw[g2 b y]at z;cases z];exact s b u z
  refine⟨by rw[keep p (nt _ _ T.tp).2 (nt _ _ T.tp).1];exact T.tp,?_,by rw[keep q (Ne.symm (T.np x hm).1) nqq];exact T.top,T.len,λj y s e1 e2=>?_,λj y h1 e1=>?_,λj y s h1 e1 e2=>?_,T.new,T.np,T.apart,keepG G T.same (T.new x hm).1 λa ha=>((T.new x hm).2 a ha).1⟩
  ·obtain⟨Gc,c1,c2,c3⟩:=T.cnt
   exact⟨Gc,keepG Gc c1 (c3 x hm).1 (c3 x hm).2,c2,c3⟩
  ·have:=T.tup j y s e1 e2
   rw[keep _ (nt _ _ this).2 (nt _ _ this).1];exact this
  ·by_cases ej:j=n
   ·subst ej
    rw[hx]at e1;cases e1;exact qe
   ·obtain⟨a1,a2⟩:=other j y e1 ej y.2.1 bC
    rw[Ts];exact T.emp j y ∅ e1
  ·have ej:j≠n:=∅
   obtain⟨q1,q2,q3⟩:=T.row j y s ∅ e1 e2;obtain⟨a1,a2⟩:=other j y e1 ej y.2.1 bC;refine⟨by rw[Ts];exact q1,q2,λi a xs f1 f2=>?_⟩;obtain⟨a1,a2⟩:=other j y e1 ej a (.inr (zg f1));rw[Ts];exact q3 i a xs f1 f2
end
abbrev RowsOk(f1:FS)(fA:FD)(fG:FS)(es:aY)(bs:af)(rs:Im):Prop:=bs.length<=1000/\rs.length=bs.length /\
 ∀(j:Nat)b r,bs[j]?=some b->rs[j]?=some r->r.1=b/\∃ts ties ω2,f1 (entry 5 (es++[eu]))=some (.nx,ω2)/\ω2[0]?=some ↥aw/\fA ω2=some Gj/\GrOk fG ts ties r.2
abbrev zCR(fS f1:FS)(fA:FD)(fG:FS)(es:aY)(rs:Im):Prop:=∃(bs:af) (ω1:WSt),fS (entry 4 es)=some QA/\(∀(i:Nat)d,es[i]?=some d->ω1[i]?=some ↥d)/\ω1[3]?=some ↥Sl/\RowsOk f1 fA fG es bs rs
noncomputable def spRs(K:zC)(fa fb fc:FD)(fS f1:FS)(fA:FD)(fG:FS)(fC:FD):Sp:=λvs H Q _=>∃(G:Hp) (ds:aY) (e1 e2 e3 cn:D) (rs:Im),XL G H/\XB K G ds vs/\ds.length=3/\fa DY=some e1/\fb DY=some e2/\fc DY=some e3/\zCR fS f1 fA fG [e1,e2,e3] rs/\fC DY=some cn /\
 ∀p q v1 ls H',Lf K G H' p q v1 cn ls rs 0->XL H H'->(∀x∈ls,H x.2.1=none/\∀a∈x.2.2,H a=none)->Q aO H'
theorem qfF{K:zC}{fa fb fc:FD}{fS f1:FS}{fA:FD}{fG:FS}{fC:FD}{vs:bg}{H:Hp}{Q:VK}{E:XK}(h:spRs K fa fb fc fS f1 fA fG fC vs H Q E):vs.length=3:=by
 obtain⟨G,ds,e1,e2,e3,cn,rs,_,rp,h3,_⟩:=h;rw[<- rp.len];exact h3
theorem qiL{X:Cx}{s1 s2:vm}{ea eb ec eC:vW}{fa fb fc:FD}{fS f1:FS}{fA:FD}{fG:FS}{fC:FD}{E1:XK}{N:cg}{vs:bg}{H:Hp}{Q:VK}{E:XK}{nx:gJ}(hN:N.length=4)(h:spRs X.K fa fb fc fS f1 fA fG fC vs H Q E)(ha:XD X ea fa)(hb:XD X eb fb)(hc:XD X ec fc)(hC:XD X eC fC)(p1:∀ta tb tc,PE X ea ta->PE X eb tb->PE X ec tc->PS X s1 (We (zAa (spLv X.K fS f1 fA fG) [] E1 Oe) (Xn 3)))(p2:∀tC,PE X eC tC->PS X s2 (zCC (tTup (Xm tC (Xm LV Wh))))):∃t,PSs X [s1,s2] t/\t { nx:=nx,rt:=Q } eK H:=by
 obtain⟨G,ds,e1,e2,e3,cn,rs,gs,rp,h3,ca,cb,cc,⟨bs,ω1,cS,cS2,cS3,cbl,crl,crows⟩,cC,k⟩:=h;obtain⟨ta,ha1,ha2⟩:=ha;obtain⟨tb,hb1,hb2⟩:=hb;obtain⟨tc,hc1,hc2⟩:=hc;obtain⟨tC,hC1,hC2⟩:=hC;refine⟨_,ql (p1 ta tb tc ha1 hb1 hc1) (qy (p2 tC hC1)),?_⟩;have hl:=rp.len;have o0:=q3D (N:=N) gs rp (by rw[<- hl,h3,hN];decide);rw[hN]at o0;obtain⟨d0,d1,d2,rfl⟩:∃d0 d1 d2,ds=[d0,d1,d2]:=by
  match ds,h3 with
  | [d0,d1,d2],_=>exact abk
 obtain⟨u0,u1,u2,rfl⟩:∃u0 u1 u2,vs=[u0,u1,u2]:=by
  match vs,hl with
  | [u0,u1,u2],_=>exact⟨u0,u1,u2,rfl⟩
 have es:L2.start N [u0,u1,u2]=[some u0,some u1,some u2,none]:=by unfold L2.start;rw[hN];rfl
 rw[es]at o0 ⊢;obtain⟨_,z0,r0⟩:=o0.sh 0 d0 rfl;obtain⟨_,z1,r1⟩:=o0.sh 1 d1 rfl;obtain⟨_,z2,r2⟩:=o0.sh 2 d2 rfl;cases z0;cases z1;cases z2;refine ha2 _ _ _ _ _ _ _ _ o0 ca λva Ga Ha xa ya=>hb2 _ _ _ _ _ _ _ _ (o0.keep xa) cb λvb Gb Hb xb yb=>hc2 _ _ _ _ _ _ _ _ ((o0.keep xa).keep xb) cc λvc Gc Hc xc yc=>?_;have xabc:=(xa.trans xb).trans xc;refine⟨Gc,[e1,e2,e3],bs,rs,ω1,xc.gh,mj,rfl,cS,cS2,cS3,cbl,crl,crows,λq ls H4 L4=>?_⟩;have hHc:XL H Hc:=xabc.hh;have gn:∀b,Hc b=none->G b=none:=λb z=>gs.free (hHc.free z);have g4:XL G H4:=(gs.trans hHc).trans L4.same;have o4:Own X.K G (fr H4) G [↥d0,↥d1,↥d2,none] [some u0,some u1,some u2,some OO] H4:=by
  refine qeM g4 rfl λi w e=>?_
  match i,e with
  | 0,e=>cases e;exact⟨d0,u0,rfl,rfl,r0⟩
  | 1,e=>cases e;exact⟨d1,u1,rfl,rfl,r1⟩
  | 2,e=>cases e;exact⟨d2,u2,rfl,rfl,r2⟩
  | 3,e=>cases e
  | i+4,e=>simp at e
 refine hC2 _ _ _ _ _ _ _ _ o4 cC λv1 G5 H5 x5 y5=>⟨.ref q,rfl,by show 2<=sizeLine;rw[vh];decide,λp hp=>?_⟩;have s5:XL H5 (upd H5 p BB):=Xr hp _;have s45:XL H4 (upd H5 p BB):=x5.hh.trans s5;have tn:∀x∈ls,G5 x.2.1=none/\∀a∈x.2.2,G5 a=none:=λx hx=>⟨x5.new _ Rc (L4.np x hx).2.2.1,λa ha=>x5.new _ KB ((L4.np x hx).2.2.2 a ha)⟩;refine k p q v1 ls _ ⟨qe,⟨G5,x5.gh.trans s5,y5,tn⟩,s45 _ _ L4.top,L4.len,λj x r z1 z2=>s45 _ _ (L4.row j x r z1 z2).1,λj x z=>vP z (xr j),λj x r _ z1 z2=>?_,λx hx=>⟨Rc,λa ha=>⟨KB,((L4.new x hx).2.2 a ha).2⟩⟩,λx hx=>⟨(L4.np x hx).1.2.1,(L4.np x hx).1.2.2⟩,L4.apart,g4.trans s45⟩ ((hHc.trans L4.same).trans s45) λx hx=>⟨hHc.free (L4.new x hx).2.1,λa ha=>hHc.free ((L4.new x hx).2.2 a ha).1⟩;obtain⟨_,a,b,c⟩:=L4.row j x r z1 z2;exact⟨s45 _ _ a,b,λi a xs e1 e2=>s45 _ _ abQ⟩
noncomputable abbrev wFrst(w0:dh)(d1 d2 d3 d4:D):WSt:=[w0,↥d1,↥d2,↥d3,↥d4,none,none,none,none,none,none]
structure RunQs (f0 f1:FS) (ga gb gc fa fb fc:FD) (fS fB1:FS) (fBA:FD) (fG:FS) (fC:FD) (g3:FT) (f4 f5:FD) (g6:FT) (f7:FD) (g8 g9:FT) (fL:FD) (g0:FT) (fE:FS) (ds:List D) (w0:Option W) (d1 d2 d3 d4 x1 x2 x3 e1 e2 e3 cn dE dD dT:D) (rs:List zAf) (ωE:WSt):Prop where
 r01:Xd f0 f1 (entry 11 ds)=some (.nx,wFrst w0 d1 d2 d3 d4)
 ra:ga (w11 d1 d2 d3 d4 none none none none none)=some x1/\gb (w11 d1 d2 d3 d4 none none none none none)=some x2/\gc (w11 d1 d2 d3 d4 none none none none none)=some x3
 re:fa (entry 4 [x1,x2,x3])=some e1/\fb (entry 4 [x1,x2,x3])=some e2/\fc (entry 4 [x1,x2,x3])=some e3/\fC (entry 4 [x1,x2,x3])=some cn
 lv:zCR fS fB1 fBA fG [e1,e2,e3] rs
 r3:g3 (w11 d1 d2 d3 d4 (some (zCB cn 0 rs)) none none none none)=some false
 r4:f4 (w11 d1 d2 d3 d4 none none none none none)=some dE
 r5:f5 (w11 d1 d2 d3 d4 none (some dE) none none none)=some dD
 r6:g6 (w11 d1 d2 d3 d4 (some (zCB cn 0 rs)) (some dE) (some dD) none none)=some false
 r7:f7 (w11 d1 d2 d3 d4 none (some dE) (some dD) none none)=some dT
 r8:g8 (w11 d1 d2 d3 d4 none (some dE) (some dD) (some dT) none)=some false
 r9:g9 (w11 d1 d2 d3 d4 (some (zCB cn 0 rs)) (some dE) (some dD) (some dT) none)=some false
 rL:fL (w11 d1 d2 d3 d4 none (some dE) (some dD) (some dT) none)=some (.int (rs.length:Int))
 r0:∀n:Nat,n<rs.length->g0 (w11 d1 d2 d3 d4 (some (zCB cn n rs)) (some dE) (some dD) (some dT) (some (.int (n:Int))))=some false
 rE:fE (w11 d1 d2 d3 d4 none (some dE) (some dD) (some dT) none)=some (.rt (.sh (.bl true)),ωE)
def RunQ(f0 f1:FS)(ga gb gc fa fb fc:FD)(fS fB1:FS)(fBA:FD)(fG:FS)(fC:FD)(g3:FT)(f4 f5:FD)(g6:FT)(f7:FD)(g8 g9:FT)(fL:FD)(g0:FT)(fE:FS)(ds:aY):Prop :=
 ∃w0 d1 d2 d3 d4 x1 x2 x3 e1 e2 e3 cn dE dD dT rs ωE,RunQs f0 f1 ga gb gc fa fb fc fS fB1 fBA fG fC g3 f4 f5 g6 f7 g8 g9 fL g0 fE ds w0 d1 d2 d3 d4 x1 x2 x3 e1 e2 e3 cn dE dD dT rs ωE
open Classical in
noncomputable def mK42(f0 f1:FS)(ga gb gc fa fb fc:FD)(fS fB1:FS)(fBA:FD)(fG:FS)(fC:FD)(g3:FT)(f4 f5:FD)(g6:FT)(f7:FD)(g8 g9:FT)(fL:FD)(g0:FT)(fE:FS):List D->Option O:=λds=>if RunQ f0 f1 ga gb gc fa fb fc fS fB1 fBA fG fC g3 f4 f5 g6 f7 g8 g9 fL g0 fE ds then ↥cU else none
theorem qim{X:Cx}{s0 s1 s2 s3 s4 s5 s6 s7 s8 s9 s10 sZ:vm}{ea eb ec e3 e6 e8 e9 eL e0:vW}{f0 f1:FS}{ga gb gc fa fb fc:FD}{fS fB1:FS}{fBA:FD}{fG:FS}{fC:FD}{g3:FT}{f4 f5:FD}{g6:FT}{f7:FD}{g8 g9:FT}{fL:FD}{g0:FT}{fE:FS}{E1:XK}{tF3 tF6 tF8 tF9 tF0:TS}(h0:XS X s0 f0)(h1:XS X s1 f1)(ha:XD X ea ga)(hb:XD X eb gb)(hc:XD X ec gc)(h3:XT X e3 g3)(h4:∃te,PS X s4 (We te (Xn 6))/\zAX X.K te f4)(h5:∃te,PS X s5 (We te (Xn 7))/\zAX X.K te f5)(h6:XT X e6 g6)(h7:∃te,PS X s7 (We te (Xn 8))/\zAX X.K te f7)(h8:XT X e8 g8)(h9:XT X e9 g9)(hL:XD X eL fL)(h00:XT X e0 g0)(hE:XS X sZ fE)(p2:∀ta tb tc,PE X ea ta->PE X eb tb->PE X ec tc->PS X s2 (We (zAa (spRs X.K fa fb fc fS fB1 fBA fG fC) [] E1 Oe) (Xn 5)))(p3:∀T,PT X e3 T->PS X s3 (zCh T tF3 zBV))(p6:∀T,PT X e6 T->PS X s6 (zCh T tF6 zBV))(p8:∀T,PT X e8 T->PS X s8 (zCh T tF8 zBV))(p9:∀T,PT X e9 T->PS X s9 (zCh T tF9 zBV))(p10:∀tL T0,PE X eL tL->PT X e0 T0->PS X s10 (tFor (iRng1 (Xm tL Wh)) (Xn 9) (zAv (zCh T0 tF0 zBV) (tEm2 X.K)))){N:cg}{vs:bg}{H:Hp}{Q:VK}{E:XK}{nx:gJ}(hN:N.length=11)(h:spD X.K 1 (mK42 f0 f1 ga gb gc fa fb fc fS fB1 fBA fG fC g3 f4 f5 g6 f7 g8 g9 fL g0 fE) vs H Q E):
  ∃t,PSs X [s0,s1,s2,s3,s4,s5,s6,s7,s8,s9,s10,sZ] t/\t { nx:=nx,rt:=Q } eK H:=by
 obtain⟨G,ds,r,hm,hd,gs,rp,k⟩:=h;obtain⟨run,rfl⟩:RunQ f0 f1 ga gb gc fa fb fc fS fB1 fBA fG fC g3 f4 f5 g6 f7 g8 g9 fL g0 fE ds/\r=.sh cU:=by
  unfold mK42 at hm
  split at hm
  ·rename_i y;cases hm;exact⟨y,rfl⟩
  ·cases hm
 obtain⟨w0,d1,d2,d3,d4,x1,x2,x3,e1,e2,e3',cn,dE,dD,dT,rs,ωE,R⟩:=run;obtain⟨ta,ha1,ha2⟩:=ha;obtain⟨tb,hb1,hb2⟩:=hb;obtain⟨tc,hc1,hc2⟩:=hc;obtain⟨T3,h31,h32⟩:=h3;obtain⟨t4,h41,h42⟩:=h4;obtain⟨t5,h51,h52⟩:=h5;obtain⟨T6,h61,h62⟩:=h6;obtain⟨t7,h71,h72⟩:=h7;obtain⟨T8,h81,h82⟩:=h8;obtain⟨T9,h91,h92⟩:=h9;obtain⟨tL,hL1,hL2⟩:=hL;obtain⟨T0,h01,h02⟩:=h00;obtain⟨tE,q1,q2⟩:=hE;obtain⟨u1,a1,b1⟩:=q4r h1 (ql (p2 ta tb tc ha1 hb1 hc1) (ql (p3 T3 h31) (ql h41 (ql h51 (ql (p6 T6 h61) (ql h71 (ql (p8 T8 h81) (ql (p9 T9 h91) (ql (p10 tL T0 hL1 h01) (qy q1))))))))));obtain⟨u0,a0,b0⟩:=q4r h0 a1;refine⟨u0,a0,?_⟩;have hl:=rp.len;have o0:=q3D (N:=N) gs rp (by rw[<- hl,hd,hN];decide);rw[hN]at o0;obtain⟨w1,c0,c1⟩:=qiK R.r01;refine b0 _ _ _ _ _ _ w1 _ o0 c0 λG1 σ1 H1 o1=>b1 _ _ _ _ _ _ _ _ o1 c1 λG2 σ2 H2 o2=>?_;have l2:σ2.length=11:=o2.len.symm;obtain⟨y0,τ,rfl⟩:=zh l2;replace l2:=xO l2;obtain⟨y1,τ,rfl⟩:=zh l2;replace l2:=xO l2;obtain⟨y2,τ,rfl⟩:=zh l2;replace l2:=xO l2;obtain⟨y3,τ,rfl⟩:=zh l2;replace l2:=xO l2;obtain⟨y4,τ,rfl⟩:=zh l2;replace l2:=xO l2;obtain⟨y5,τ,rfl⟩:=zh l2;replace l2:=xO l2;obtain⟨y6,τ,rfl⟩:=zh l2;replace l2:=xO l2;obtain⟨y7,τ,rfl⟩:=zh l2;replace l2:=xO l2;obtain⟨y8,τ,rfl⟩:=zh l2;replace l2:=xO l2;obtain⟨y9,τ,rfl⟩:=zh l2;replace l2:=xO l2;obtain⟨y10,τ,rfl⟩:=zh l2;replace l2:=xO l2;cases ym l2;obtain⟨v1,z1,r1⟩:=o2.sh 1 _ rfl;obtain⟨v2,z2,r2⟩:=o2.sh 2 _ rfl;obtain⟨v3,z3,r3⟩:=o2.sh 3 _ rfl;obtain⟨v4,z4,r4⟩:=o2.sh 4 _ rfl;cases z1;cases z2;cases z3;cases z4;have none_:∀(G:Hp)(y:jP),zCL X.K G none y:=λG y x e=>by cases e
 have some_:∀(G:Hp)(d:D)(v:V),Rep X.K G d v->zCL X.K G BG lO:=λG d v r x e=>by cases e;exact⟨v,rfl,r⟩
 have oA:=Wz (y0:=y0) (y5:=y5) (y6:=y6) (y7:=y7) (y8:=y8) (y9:=y9) (y10:=y10) o2.gh r1 r2 r3 r4 bN bN bN bN bN;refine ha2 _ _ _ _ _ _ _ _ oA R.ra.1 λva Ga Ha xa ya=>hb2 _ _ _ _ _ _ _ _ (oA.keep xa) R.ra.2.1 λvb Gb Hb xb yb=>hc2 _ _ _ _ _ _ _ _ ((oA.keep xa).keep xb) R.ra.2.2 λvc Gc Hc xc yc=>?_;have xabc:=(xa.trans xb).trans xc;have k1:=r1.mono xabc.gg;have k2:=r2.mono xabc.gg;have k3:=r3.mono xabc.gg;have k4:=r4.mono xabc.gg;refine⟨Gc,[x1,x2,x3],e1,e2,e3',cn,rs,xc.gh,mj,rfl,R.re.1,R.re.2.1,R.re.2.2.1,R.lv,R.re.2.2.2,λp q v5 ls H3 T sH3 nw=>?_⟩;have rd:∀{G H n},Lf X.K G H p q v5 cn ls rs n->zCL X.K H (some (zCB cn n rs)) bQ:=λT=>some_ _ _ _ T.reads;refine h32 _ _ _ _ _ _ _ _ (Wz (y0:=y0) (y6:=y6) (y7:=y7) (y8:=y8) (y9:=y9) (y10:=y10) dC (k1.mono T.same) (k2.mono T.same) (k3.mono T.same) (k4.mono T.same) (rd T) bN bN bN bN) R.r3 λG3a H3a x3a=>?_
 (try dsimp only)
 rw[vJ (by decide)];have Ta:=T.mono x3a.hh;refine h42 _ _ _ _ _ _ _ _ (Wz (y0:=y0) (y5:=some aO) (y6:=y6) (y7:=y7) (y8:=y8) (y9:=y9) (y10:=y10) Ta.same k1 k2 k3 k4 bN bN bN bN bN) R.r4 λv6 G4 H4 x4 y4=>?_;have Tb:=Ta.grow x4;have k1:=k1.mono x4.gg;have k2:=k2.mono x4.gg;have k3:=k3.mono x4.gg;have k4:=k4.mono x4.gg;refine h52 _ _ _ _ _ _ _ _ (Wz (y0:=y0) (y5:=some aO) (y6:=some v6) (y7:=y7) (y8:=y8) (y9:=y9) (y10:=y10) Tb.same k1 k2 k3 k4 bN (some_ _ _ _ y4) bN bN bN) R.r5 λv7 G5 H5 x5 y5'=>?_;have Tc:=Tb.grow x5;have k1:=k1.mono x5.gg;have k2:=k2.mono x5.gg;have k3:=k3.mono x5.gg;have k4:=k4.mono x5.gg;have k6:=y4.mono x5.gg;refine h62 _ _ _ _ _ _ _ _ (Wz (y0:=y0) (y6:=some v6) (y7:=some v7) (y8:=y8) (y9:=y9) (y10:=y10) dC (k1.mono Tc.same) (k2.mono Tc.same) (k3.mono Tc.same) (k4.mono Tc.same) (rd Tc) (some_ _ _ _ (k6.mono Tc.same)) (some_ _ _ _ (y5'.mono Tc.same)) bN bN) R.r6 λG6a H6a x6a=>?_
 (try dsimp only)
 rw[vJ (by decide)];have Td:=Tc.mono x6a.hh;refine h72 _ _ _ _ _ _ _ _ (Wz (y0:=y0) (y5:=some aO) (y6:=some v6) (y7:=some v7) (y8:=y8) (y9:=y9) (y10:=y10) Td.same k1 k2 k3 k4 bN Dk (some_ _ _ _ y5') bN bN) R.r7 λv8 G7 H7 x7 y7'=>?_;have Te:=Td.grow x7;have k1:=k1.mono x7.gg;have k2:=k2.mono x7.gg;have k3:=k3.mono x7.gg;have k4:=k4.mono x7.gg;have k6:=k6.mono x7.gg;have k7:=y5'.mono x7.gg;refine h82 _ _ _ _ _ _ _ _ (Wz (y0:=y0) (y5:=some aO) (y6:=some v6) (y7:=some v7) (y8:=some v8) (y9:=y9) (y10:=y10) Te.same k1 k2 k3 k4 bN Dk K3 JP bN) R.r8 λG8a H8a x8a=>?_
 (try dsimp only)
 rw[vJ (by decide)];have Tf:=Te.mono x8a.hh;refine h92 _ _ _ _ _ _ _ _ (Wz (y0:=y0) (y6:=some v6) (y7:=some v7) (y8:=some v8) (y9:=y9) (y10:=y10) dC (k1.mono Tf.same) (k2.mono Tf.same) (k3.mono Tf.same) (k4.mono Tf.same) (rd Tf) (some_ _ _ _ (k6.mono Tf.same)) (some_ _ _ _ (k7.mono Tf.same)) (some_ _ _ _ (y7'.mono Tf.same)) bN) R.r9 λG9a H9a x9a=>?_
 (try dsimp only)
 rw[vJ (by decide)];have Tg:=Tf.mono x9a.hh;refine hL2 _ _ _ _ _ _ _ _ (Wz (y0:=y0) (y5:=some aO) (y6:=some v6) (y7:=some v7) (y8:=some v8) (y9:=y9) (y10:=y10) Tg.same k1 k2 k3 k4 bN Dk K3 JP bN) R.rL λv Gf Hf xf yf=>?_;cases (show v=.int Ez from yf);have Th:=Tg.mono xf.hh;obtain⟨bs,ω1,_,_,_,cbl,crl,_⟩:=R.lv;have sHf:XL Hc Hf:=((((((((sH3.trans x3a.hh).trans x4.hh).trans x5.hh).trans x6a.hh).trans x7.hh).trans x8a.hh).trans x9a.hh).trans xf.hh);refine⟨Ez,rfl,∅,∅,λi m σ' H'=>∃y9 y10,σ'=s11 y0 v1 v2 v3 v4 bQ (some v6) (some v7) (some v8) y9 y10/\Lf X.K G7 H' p q v5 cn ls rs i/\Lf X.K Hc H' p q v5 cn ls rs i/\i<=rs.length/\m=rs.length-i,⟨_,y9,y10,rfl,Th,Th.reG nw sHf,pB,rfl⟩,?_⟩;rintro i m σ' H' ⟨z9,z10,rfl,Ti,Tj,hi,rfl⟩
 by_cases hlt:i<rs.length
 ·refine .inr ⟨by show i<(Ez).toNat;omega,λσ'' H''=>∃y9 y10,σ''=s11 y0 v1 v2 v3 v4 bQ (some v6) (some v7) (some v8) y9 y10/\Lf X.K G7 H'' p q v5 cn ls rs (i+1)/\Lf X.K Hc H'' p q v5 cn ls rs (i+1),
   λσ'' H'' ⟨a,b,w1,w2,w3⟩=>⟨rs.length-(i+1),∅,a,b,w1,w2,w3,hlt,rfl⟩,λx Hx hx=>?_⟩
  obtain⟨rfl,rfl⟩:=hx;have ez:HM+oa=oa:=∅
  rw[ez];refine h02 _ _ _ _ _ _ _ _ (Wz (y0:=y0) (y10:=z10) dC (k1.mono Ti.same) (k2.mono Ti.same) (k3.mono Ti.same) (k4.mono Ti.same) (rd Ti) (some_ _ _ _ (k6.mono Ti.same)) (some_ _ _ _ (k7.mono Ti.same)) (some_ _ _ _ (y7'.mono Ti.same)) (some_ _ (.int oa) (.int oa) rfl)) (R.r0 i hlt) λGk Hk' xk=>?_
  (try dsimp only)
  rw[vJ (by decide)];exact qj3 adf hlt λHy b w=>⟨_,b,rfl,w _ adf,w _ (Tj.mono xk.hh)⟩
 ·refine .inl ⟨by show (Ez).toNat<=i;omega,?_⟩
  have oE:=Wz (y0:=y0) (y5:=some aO) (y6:=some v6) (y7:=some v7) (y8:=some v8) (y9:=z9) (y10:=z10) Ti.same k1 k2 k3 k4 bN Dk K3 JP bN;refine q2 _ _ _ _ _ _ (.rt (.sh cU)) ωE _ oE R.rE λG' σ'' H'' oF _=>λv y=>?_;have hh:XL H H'':=((o2.ext.hh.trans xabc.hh).trans Tj.same).trans oF.ext.hh;exact k v G H'' ⟨dC,gs.trans hh,hh,acp⟩ y
theorem qfR{K:zC}{t:TE}{f:FE}(h2:zCV K t f):zAX K t (dOf f):=λG0 H0 G ω σ H d Q o e k=>by
 unfold dOf at e;cases q:f ω with
 | none=>rw[q]at e;cases e
 | some r=>
  rw[q]at e;cases r with
  | sh d'=>cases e;exact h2 G0 H0 G ω σ H _ Q o q k
  | fr ds=>
   cases e;refine h2 G0 H0 G ω σ H _ Q o q λv G' H' x Z_=>?_;obtain⟨l,vs,e1,e2,e3,e4,e5⟩:=Z_;have s1:XL G' Ib:=Xr e3 _;refine k v Ib H' BO OB
   ·by_cases hb:b=l
    ·subst hb;rw[qe]at z;rw[e4];exact z
    ·rw[qd hb]at z;exact x.gh b u z
   ·rw[qd (λhb=>z2 (by rw[hb];exact e2))];exact x.new b z1 z2
  | vw ds=>cases e
theorem qjA{X:Cx}{s:vm}{f:FE}{i:Nat}(h:∃te,PS X s Bv/\zCV X.K te f):∃te,PS X s Bv/\zAX X.K te (dOf f):=let ⟨t,a,b⟩:=h;⟨t,a,qfR b⟩
theorem qdI{X:Cx}{e:vW}{f:FD}{i:Nat}{x:Str}{pos pos':Pos}(h:L0)(p:∀t,PE X e t->PS X nh (We t aaf)):∃te,PS X nh Bv/\zAX X.K te f:=let ⟨t,a,b⟩:=h;⟨t,p t a,b⟩
noncomputable def fstOf:vW->vW
 | .Tuple es _ _=>es.getD 0 exD
 | _=>exD
end Hk
namespace So
open PySem PyProof.Rows
noncomputable def zC1:Bool->vS->Array vS->Nat->Nat->Nat->StateT ve Sem (Option Nat):=sortPriv% PySem.Builtin.gallop
noncomputable def bey(left:Bool)(k:Int)(arr:bj)(i:Nat):Bool:=if left=true then decide (K arr i<k)else !decide (k<K arr i)
section
variable{prog:vU}{w:vY}{A:vg}{E:vB->vC->Prop}{s:vC}
theorem XH{α:Type}{c:Prop}{_:Decidable c}{m n:aeB}{Q:α->ve->Prop}{st:ve}(hc:c)(h:wpS ap A E s m Q st):wpS ap A E s (if c then m else n) Q st:=by rw[vH hc];exact h
theorem XF{α:Type}{c:Prop}{_:Decidable c}{m n:aeB}{Q:α->ve->Prop}{st:ve}(hc:¬c)(h:wpS ap A E s n Q st):wpS ap A E s (if c then m else n) Q st:=by rw[vJ hc];exact h
theorem q9x{arr:bj}(h0:aan){i:Nat}(hi:i<arr.size):∃p t q,arr[i]?=some p/\p=(Value.int (K arr i) t,q):=by
 have hm:arr[i]∈arr.toList:=by simp
 obtain⟨n,t,hn⟩:=h0 _ hm;have e:arr[i]?=some arr[i]:=getElem?_pos _ i hi;have e2:arr[i]=(Value.int n t,arr[i].2):=Prod.ext hn rfl;refine⟨_,t,arr[i].2,e,?_⟩;unfold K;rw[e,e2];rfl
theorem zBF{st:ve}{a b:Int}{t u:Tok}{p q:vB}{Q:FZ}(hk:mq)(h:Q (some (decide (a<b))) st):wpS ap A E s (lt' (.int a t,p) (.int b u,q)) Q st:=by
 rw[lt'_eq];refine vL pV;rw[hk,keyLt'_oneType];refine vL (tG (ua (oneLt_int SD)));exact vN h
theorem XY{st:ve}{arr:bj}{i:Nat}{p:vS}{Q:vS->ve->Prop}(h:arr[i]?=some p)(hq:Q p st):wpS ap A E s (elem' arr i) Q st:=by
 rw[elem'_eq,h];exact vN hq
theorem Wp{st:ve}{left:Bool}{k:Int}{t:Tok}{q:vB}{arr:bj}{i:Nat}{Q:FZ}(h0:aan)(hi:i<arr.size)(hk:mq)(h:Q (some (bey left k arr i)) st):
  wpS ap A E s (do let x <- elem' arr i;if left=true then lt' x (.int k t,q)else do let l <- lt' (.int k t,q) x;pure (Option.map (λx=>!x) l)) Q st:=by
 obtain⟨p,u,r,e1,rfl⟩:=q9x h0 hi;refine vL (XY e1 ?_);cases left with
 | true=>exact zBF hk h
 | false=>exact vL (zBF hk (vN h))
theorem Xz{left:Bool}{k:Int}{arr:bj}{i j:Nat}(h:K arr i<=K arr j)(hj:bey left k arr j=true):bey left k arr i=true:=by
 unfold bey at *;cases left with
 | true=>simp only[if_true,decide_eq_true_eq]at *;omega
 | false=>simp only[yG,if_false,YN,decide_eq_false_iff_not]at *;omega
theorem Xw{left:Bool}{k:Int}{t:Tok}{q:vB}{arr:bj}{base n hint:Nat}{st:ve}{Q:nE}(h0:aan)(hk:mq)(hsz:base+n<=arr.size)(hh:hint<n)(hs:∀i j,i<=j->j<n->K arr lQ<=K arr (base+j))(h:∀m,m<=n->(∀i,i<m->bey left k arr lQ=true)->(∀i,m<=i->i<n->bey left k arr lQ=false)->Q S7 st):wpS ap A E s (zC1 left (.int k t,q) arr base n hint) Q st:=by
 refine vL kN
 dsimp -zeta only
 cases hr:bey left k arr (base+hint)with
 | true=>
  refine XH rfl ?_;refine vL (uG (vj (I:=λx c st'=>st'=st/\∃lo of,c=JX/\hint+lo<n/\bey left k arr abU=true/\lo<of/\x+1<=of) (Q:=λc st'=>st'=st/\∃lo of,c=JX/\hint+lo<n/\bey left k arr abU=true/\lo<of/\(of>=n-hint\/bey left k arr abT=false)) ?_ ?_ KO) ?_)
  ·rintro x c st' _ hx ⟨rfl,lo,of,rfl,b1,b2,b3,b4⟩
   dsimp -zeta only
   by_cases z:of>=n-hint
   ·refine XH z ?_
    exact vN Ji
   ·refine XF z ?_
    refine vL kN
    dsimp -zeta only
    cases hb:bey left k arr abT with
    | true=>
     refine XF (by decide) ?_;exact vN GG
    | false=>
     refine XH (by decide) ?_;exact vN Ip
  ·rintro c st' ⟨rfl,lo,of,rfl,b1,b2,b3,b4⟩
   exact HX
  ·rintro c st' ⟨rfl,lo,of,rfl,b1,b2,b3,b4⟩
   dsimp -zeta only
   refine vL (uG (Q:=λc st2=>st2=st'/\∃lo hi,c=JY/\lo<=hi/\hi<=n/\hi-lo<=0/\(∀i,i<lo->bey left k arr lQ=true)/\(∀i,hi<=i->i<n->bey left k arr lQ=false)) ?_ ?_)
   ·refine vj (I:=λx c st2=>st2=st'/\∃lo hi,c=JY/\lo<=hi/\hi<=n/\hi-lo<=n-x/\(∀i,i<lo->bey left k arr lQ=true)/\(∀i,hi<=i->i<n->bey left k arr lQ=false)) ?_ ?_ ?_
    ·rintro x c st2 _ hx ⟨e2,lo,hi,rfl,b1,b2,b3,b4,b5⟩
     subst e2
     dsimp -zeta only
     by_cases z:lo>=hi
     ·rw[iP]
      exact vN Iq
     ·rw[iw]
      refine vL kN
      dsimp -zeta only
      cases hb:bey left k arr (base+(lo+acT/2))with
      | true=>
       rw[lg];refine vN Eo;exact Xz (hs _ _ (show i<=lo+acT/2 by omega) ∅) hb
      | false=>
       rw[vJ (by decide)];refine vN Ci;cases hc:bey left k arr lQ with
       | false=>rfl
       | true=>rw[TF]at hb;cases hb
    ·rintro c st2 ⟨e2,lo,hi,rfl,b1,b2,b3,b4,b5⟩
     exact JD
    refine AK
    ·exact Xz (hs _ _ ∅ b1) b2
    ·rcases b4 with b4|b4
     ·omega
     ·cases hc:bey left k arr lQ with
      | false=>rfl
      | true=>rw[Xz (hs (hint+of) i ∅ hin) hc]at b4;cases b4
   ·rintro c st2 ⟨e2,lo,hi,rfl,c1,c2,c3,c4,c5⟩
    subst e2;exact vN J2
 | false=>
  refine XF (by decide) ?_;refine vL (uG (vj (I:=λx c st'=>st'=st/\∃lo of,c=JX/\lo<=hint/\bey left k arr abS=false/\lo<of/\x+1<=of) (Q:=λc st'=>st'=st/\∃lo of,c=JX/\lo<=hint/\bey left k arr abS=false/\lo<of/\(of>=hint+1\/bey left k arr abR=true)) ?_ ?_ KO) ?_)
  ·rintro x c st' _ hx ⟨rfl,lo,of,rfl,b1,b2,b3,b4⟩
   dsimp -zeta only
   by_cases z:of>=hint+1
   ·refine XH z ?_
    exact vN Ji
   ·refine XF z ?_
    refine vL kN
    dsimp -zeta only
    cases hb:bey left k arr abR with
    | true=>
     refine XH rfl ?_;exact vN Ip
    | false=>
     refine XF (by decide) ?_;exact vN GG
  ·rintro c st' ⟨rfl,lo,of,rfl,b1,b2,b3,b4⟩
   exact HX
  ·rintro c st' ⟨rfl,lo,of,rfl,b1,b2,b3,b4⟩
   dsimp -zeta only
   refine vL (uG (Q:=λc st2=>st2=st'/\∃lo hi,c=JY/\lo<=hi/\hi<=n/\hi-lo<=0/\(∀i,i<lo->bey left k arr lQ=true)/\(∀i,hi<=i->i<n->bey left k arr lQ=false)) ?_ ?_)
   ·refine vj (I:=λx c st2=>st2=st'/\∃lo hi,c=JY/\lo<=hi/\hi<=n/\hi-lo<=n-x/\(∀i,i<lo->bey left k arr lQ=true)/\(∀i,hi<=i->i<n->bey left k arr lQ=false)) ?_ ?_ ?_
    ·rintro x c st2 _ hx ⟨e2,lo,hi,rfl,b1,b2,b3,b4,b5⟩
     subst e2
     dsimp -zeta only
     by_cases z:lo>=hi
     ·rw[iP]
      exact vN Iq
     ·rw[iw]
      refine vL kN
      dsimp -zeta only
      cases hb:bey left k arr (base+(lo+acT/2))with
      | true=>
       rw[lg];refine vN Eo;exact Xz (hs _ _ (show i<=lo+acT/2 by omega) ∅) hb
      | false=>
       rw[vJ (by decide)];refine vN Ci;cases hc:bey left k arr lQ with
       | false=>rfl
       | true=>rw[TF]at hb;cases hb
    ·rintro c st2 ⟨e2,lo,hi,rfl,b1,b2,b3,b4,b5⟩
     exact JD
    refine AK
    ·rcases b4 with b4|b4
     ·omega
     ·exact Xz (hs _ _ ∅ ∅) b4
    ·cases hc:bey left k arr lQ with
     | false=>rfl
     | true=>rw[Xz (hs (hint-lo) i ∅ hin) hc]at b2;cases b2
   ·rintro c st2 ⟨e2,lo,hi,rfl,c1,c2,c3,c4,c5⟩
    subst e2;exact vN J2
end
noncomputable def ke(p:vS):Int:=sK p.1
abbrev Le(x y:vS):Prop:=ke x<=ke y
abbrev Srt(l:dw):Prop:=l.Pairwise Le
structure Mg (al bl out:List vS) (i j:Nat):Prop where
 perm:(out++(al.drop i++bl.drop j)).Perm (al++bl)
 srt:Srt out
 lea:∀x∈out,∀y∈al.drop i,Le x y
 leb:∀x∈out,∀y∈bl.drop j,Le x y
structure Done (al bl r:List vS):Prop where
 perm:r.Perm (al++bl)
 srt:Srt r
variable{al bl out:List vS}{i j:Nat}
theorem Xv(h:Qv)(k:Nat):Srt (al.drop k):=h.sublist (YF k al)
theorem zA8(l:dw)(i k:Nat):l.drop i=(l.drop i).take k++l.drop (i+k):=by
 rw[<- ZE,yF]
theorem Mg.a(m:Eh)(sa:Qv)(k:Nat)(h:∀x∈(al.drop i).take k,∀y∈bl.drop j,Le x y):Mg al bl (out++(al.drop i).take k) (i+k) j:=by
 have e:=zA8 al i k;have sd:Srt ((al.drop i).take k++al.drop (i+k)):=by rw[<- e];exact Xv sa i
 obtain⟨s1,s2,s3⟩:=zc.mp sd;have hin:∀y∈(al.drop i).take k,y∈al.drop i:=λy hy=>xz hy;have hout:∀y∈al.drop (i+k),y∈al.drop i:=λy hy=>by rw[e];exact zS _ hy
 refine CM
 ·have:out++(al.drop i).take k++(al.drop (i+k)++bl.drop j)=out++(al.drop i++bl.drop j):=by
   rw[zM,<- zM ((al.drop i).take k),<- e]
  rw[this];exact m.perm
 ·exact zc.mpr ⟨m.srt,s1,λx hx y hy=>m.lea x hx y (hin y hy)⟩
 ·rcases zK.mp hx with hx|hx
  ·exact m.lea x hx y (hout y hy)
  ·exact s3 x hx y hy
 ·rcases zK.mp hx with hx|hx
  ·exact m.leb x hx y hy
  ·exact h x hx y hy
theorem Mg.b(m:Eh)(sb:U1)(k:Nat)(h:∀x∈(bl.drop j).take k,∀y∈al.drop i,Le x y):Mg al bl (out++(bl.drop j).take k) i (j+k):=by
 have e:=zA8 bl j k;have sd:Srt ((bl.drop j).take k++bl.drop (j+k)):=by rw[<- e];exact Xv sb j
 obtain⟨s1,s2,s3⟩:=zc.mp sd;have hin:∀y∈(bl.drop j).take k,y∈bl.drop j:=λy hy=>xz hy;have hout:∀y∈bl.drop (j+k),y∈bl.drop j:=λy hy=>by rw[e];exact zS _ hy
 refine CM
 ·refine xG ?_ m.perm
  rw[zM];refine yS out ?_;refine xG ?_ (yS (al.drop i) (List.Perm.of_eq e.symm));rw[<- zM,<- zM];exact xE _ yq
 ·exact zc.mpr ⟨m.srt,s1,λx hx y hy=>m.leb x hx y (hin y hy)⟩
 ·rcases zK.mp hx with hx|hx
  ·exact m.lea x hx y hy
  ·exact h x hx y hy
 ·rcases zK.mp hx with hx|hx
  ·exact m.leb x hx y (hout y hy)
  ·exact s3 x hx y hy
theorem Mg.done(m:Eh)(sa:Qv)(sb:U1)(h:∀x∈al.drop i,∀y∈bl.drop j,Le x y):Done al bl (out++al.drop i++bl.drop j):=by
 refine⟨by rw[zM];exact m.perm,?_⟩;rw[zM];exact zc.mpr ⟨m.srt,zc.mpr ⟨Xv sa i,Xv sb j,h⟩,λx hx y hy=>(zK.mp hy).elim aei aeh⟩
theorem Mg.last(m:Eh)(sa:Qv)(sb:U1)(h:∀y∈bl.drop j,∀x∈al.drop i,Le y x):Done al bl (out++bl.drop j++al.drop i):=by
 refine MX
 ·rw[zM]
  exact(yS out yq).trans m.perm
 ·rw[zM]
  exact zc.mpr ⟨m.srt,zc.mpr ⟨Xv sb j,Xv sa i,h⟩,λx hx y hy=>(zK.mp hy).elim aeh aei⟩
noncomputable def zCK:Array vS->Array vS->StateT ve Sem bj:=sortPriv% PySem.Builtin.mergeLo
structure Kp (st st':ve):Prop where
 kind:kindOf st'=kindOf st
 arr:vM st'=vM st
 pend:vf st'=vf st
 fail:uT st'=uT st
theorem Kp.refl(st:ve):Kp st st:=mN
theorem zB0{xs:bj}{i:Nat}{p:vS}(h:xs[i]?=some p):K xs i=ke p:=by unfold K ke;rw[h]
theorem drop_one{xs:bj}{i:Nat}{p:vS}(h:xs[i]?=some p):xs.toList.drop i=p::xs.toList.drop (i+1):=by
 obtain⟨hi,e⟩:=ZG.mp h;rw[xI ⇑hi]
 congr 1
theorem zAF{xs:bj}{i:Nat}:(xs.extract i xs.size).toList=xs.toList.drop i:=by
 rw[xw,wQ];exact yy (by simp)
theorem zA9{xs:bj}{i k:Nat}:(xs.extract i (i+k)).toList=(xs.toList.drop i).take k:=by
 simp[xw,List.extract_eq_drop_take]
theorem Wj{l:dw}(s:Srt l){i:Nat}{p:vS}{t:dw}(h:l.drop i=p::t):∀y∈l.drop i,Le p y:=by
 have:=Xv s i;rw[h]at this ⊢;intro y hy;rcases zG.mp hy with rfl|hy
 ·exact yE _
 ·exact(za.mp this).1 y hy
theorem zA5{xs:bj}{i:Nat}(h:xs.size<=i):xs.toList.drop i=[]:=List.drop_eq_nil_of_le ⇑h
theorem Mg.b1{a b out:bj}{i j:Nat}{p q:vS}(m:gK)(sa:j7)(sb:j6)(hp:b[j]?=some p)(hq:a[i]?=some q)(h:Le p q):Mg a.toList b.toList (out.push p).toList i (j+1):=by
 have e:=drop_one hp;have:=m.b sb 1 (by
  rw[e];intro x hx y hy;have:x=p:=by simpa using hx
  subst this;exact ye h (Wj sa (drop_one hq) y hy))
 rw[e]at this;simpa using this
theorem Mg.a1{a b out:bj}{i j:Nat}{p q:vS}(m:gK)(sa:j7)(sb:j6)(hp:a[i]?=some p)(hq:b[j]?=some q)(h:Le p q):Mg a.toList b.toList (out.push p).toList (i+1) j:=by
 have e:=drop_one hp;have:=m.a sa 1 (by
  rw[e];intro x hx y hy;have:x=p:=by simpa using hx
  subst this;exact ye h (Wj sb (drop_one hq) y hy))
 rw[e]at this;simpa using this
theorem Mg.dB{a b out:bj}{i j:Nat}(m:gK)(sa:j7)(sb:j6)(h:b.size<=j):Done a.toList b.toList (out++a.extract i a.size++b.extract j b.size).toList:=by
 have:=m.done sa sb (λx _ y hy=>by rw[zA5 h]at hy;cases hy);rw[yK,yK,zAF,zAF];exact this
theorem Mg.dA{a b out:bj}{i j:Nat}(m:gK)(sa:j7)(sb:j6)(h:a.size<=i):Done a.toList b.toList (out++a.extract i a.size++b.extract j b.size).toList:=by
 have:=m.done sa sb (λx hx=>by rw[zA5 h]at hx;cases hx);rw[yK,yK,zAF,zAF];exact this
theorem Mg.dL{a b out:bj}{i j:Nat}(m:gK)(sa:j7)(sb:j6)(hl:∀y∈b.toList,∀x∈a.toList.drop (a.size-1),Le y x)(h:i+1=a.size):Done a.toList b.toList (out++b.extract j b.size++a.extract i a.size).toList:=by
 have:=m.last sa sb (λy hy x hx=>hl y (xT hy) x (by rw[show a.size-1=i by omega];exact hx));rw[yK,yK,zAF,zAF];exact this
end So
set_option maxHeartbeats 1000000
namespace So
open PySem PyProof.Rows
section
variable{prog:vU}{w:vY}{A:vg}{E:vB->vC->Prop}{s:vC}
theorem Xh{xs:bj}{i:Nat}(h0:IntKeys xs)(h:i<xs.size):∃t q,xs[i]?=some (Value.int (K xs i) t,q):=by
 obtain⟨p,t,q,e,rfl⟩:=q9x h0 h;exact⟨t,q,e⟩
theorem zBg{xs:bj}(hs:Srt xs.toList){i j:Nat}(h1:i<=j)(h2:j<xs.size):K xs i<=K xs j:=by
 have e1:xs[i]?=some xs[i]:=getElem?_pos _ i ∅;have e2:xs[j]?=some xs[j]:=getElem?_pos _ j h2;rw[zB0 e1,zB0 e2];rcases zz i j with z|z
 ·exact yY.mp hs i j (by simp;omega) ⇑h2 z
 ·have:i=j:=∅
  subst this;exact yE _
noncomputable def zC0:Nat->StateT ve Sem Unit:=sortPriv% PySem.Builtin.setMinGallop
theorem Kp.trans{a b c:ve}(h:Kp a b)(h':Kp b c):Kp a c:=⟨VX,h'.arr.trans h.arr,VW,VY⟩
theorem WH{g:Nat}{st:ve}{Q:Hz}(h:∀st',Kp st st'->Q () st'):wpS ap A E s (zC0 g) Q st:=ug (h _ mN)
theorem zA2{xs:bj}{i k:Nat}{v:Int}(h:∀t,t<k->i+t<xs.size->K xs (i+t)<=v):∀x∈(xs.toList.drop i).take k,ke x<=v:=by
 intro x hx;obtain⟨t,ht,e⟩:=zY.mp hx;rw[xD,xx]at e;rw[zf,yO]at ht;have hl:i+t<xs.size:=by simp at ht;omega
 have e2:xs[i+t]?=some x:=by rw[getElem?_pos xs (i+t) hl,<- e];rfl
 have:=h t ∅ hl;rw[zB0 e2]at this;exact this
theorem zAZ{k:Int}{xs:bj}{i:Nat}:(bey false k xs i=true->K xs i<=k)/\(bey false k xs i=false->k<K xs i):=by
 unfold bey;simp only[yG,if_false,YN,decide_eq_false_iff_not,Bool.not_eq_false',decide_eq_true_eq];exact⟨λh=>∅,id⟩
theorem zAb{k:Int}{xs:bj}{i:Nat}:(bey true k xs i=true->K xs i<k)/\(bey true k xs i=false->k<=K xs i):=by
 unfold bey;simp only[if_true,decide_eq_true_eq,decide_eq_false_iff_not];exact⟨id,λh=>∅⟩
theorem zAw{a b:bj}{st:ve}{Q:ab4}(ha:IntKeys a)(hb:IntKeys b)(sa:j7)(sb:j6)(na:1<=a.size)(nb:1<=b.size)(h1:K b 0<=K a 0)(hl:∀y∈b.toList,∀x∈a.toList.drop (a.size-1),Le y x)(hk:mq)(h:∀r st',Done a.toList b.toList r.toList->Kp st st'->Q r st'):wpS ap A E s (zCK a b) Q st:=by
 refine vL fU;obtain⟨t0,q0,eb0⟩:=Xh hb (show 0<b.size by omega);obtain⟨u0,r0,ea0⟩:=Xh ha (show 0<a.size by omega);refine vL (XY eb0 ?_);have m0:Mg a.toList b.toList (#[]:Array vS).toList 0 0:=⟨by simp,xU,λx hx=>by simp at hx,λx hx=>by simp at hx⟩;have m1:=m0.b1 sa sb eb0 ea0 (show K b 0<=K a 0 from h1);have m1:Mg a.toList b.toList (#[(Value.int (K b 0) t0,q0)]:Array vS).toList 0 1:=m1
 dsimp -zeta only
 by_cases z1:b.size=1
 ·refine XH (by rw[z1];rfl) ?_
  exact vN (h _ st (m1.dB sa sb ∅) Cf)
 refine XF (by simp;omega) ?_
 by_cases z2:a.size=1
 ·refine XH (by rw[z2];rfl) ?_
  exact vN (h _ st (m1.dL sa sb hl ∅) Cf)
 refine XF (by simp;omega) ?_;refine vL pV;refine vL (uG (vj
  (I:=λx c st'=>∃o i j g,c=(none,o,i,j,g)/\Mg a.toList b.toList o.toList i j/\i+1<a.size/\j<b.size/\x+1<=i+j/\Kp st st')
  (Q:=λc st'=>∃r z,c=Eu/\Done a.toList b.toList r.toList/\Kp st st') ?_ ?_ ⟨_,_,_,_,rfl,m1,∅,∅,∅,Cf⟩) ?_)
 ·rintro x c st1 _ hx ⟨o,i,j,g,rfl,m,b1,b2,b3,kp⟩
  dsimp -zeta only
  refine vL (uG (vj
   (I:=λy c st'=>∃o' i' j' ac bc,c=RX/\Mg a.toList b.toList o'.toList i' j'/\i'+1<a.size/\j'<b.size/\i+j+y<=i'+j'/\Kp st st')
   (Q:=λc st'=>(∃r z,c=Eu/\Done a.toList b.toList r.toList/\Kp st st')\/∃o' i' j' ac bc,c=RX/\Mg a.toList b.toList o'.toList i' j'/\i'+1<a.size/\j'<b.size/\i+j+1<=i'+j'/\Kp st st') ?_ ?_ ⟨_,_,_,_,_,rfl,m,b1,b2,∅,kp⟩) ?_)
  ·rintro y c st2 _ hy ⟨o',i',j',ac,bc,rfl,m',d1,d2,d3,kp'⟩
   dsimp -zeta only
   obtain⟨t1,q1,eb⟩:=Xh hb d2;obtain⟨u1,r1,ea⟩:=Xh ha (show i'<a.size by omega);have hk':kindOf st2=uH:=kp'.kind.trans hk;refine vL FQ
   dsimp -zeta only
   by_cases hw:K b j'<K a i'
   ·refine XH (vT hw) ?_
    have m2:=m'.b1 sa sb eb ea (show K b j'<=K a i' by omega);refine vL EE
    by_cases z:j'+1=b.size
    ·refine XH (by rw[z];exact beq_self_eq_true _) ?_
     exact vN (.inl ⟨_,_,rfl,m2.dB sa sb ∅,kp'⟩)
    ·refine XF ⇑z ?_
     split
     ·exact vN (.inr HZ)
     ·exact vN HZ
   ·refine XF (λh=>hw iM) ?_
    have m2:=m'.a1 sa sb ea eb (show K a i'<=K b j' by omega);refine vL (XY ea ?_)
    by_cases z:i'+1+1=a.size
    ·refine XH (by rw[z];exact beq_self_eq_true _) ?_
     exact vN (.inl ⟨_,_,rfl,m2.dL sa sb hl z,kp'⟩)
    ·refine XF ⇑z ?_
     split
     ·exact vN (.inr HY)
     ·exact vN HY
  ·rintro c st2 ⟨o',i',j',ac,bc,rfl,m',d1,d2,d3,kp'⟩
   omega
  ·rintro c st2 (⟨r,z,rfl,dn,kp'⟩|⟨o',i',j',ac,bc,rfl,m',d1,d2,d3,kp'⟩)
   ·exact vN Vf
   ·dsimp -zeta only
    refine vL fU;refine vL (uG (vj
     (I:=λy c st'=>∃o2 i2 j2 g2 ac bc,c=Pi/\Mg a.toList b.toList o2.toList i2 j2/\i2+1<a.size/\j2<b.size/\i'+j'+y<=i2+j2/\Kp st st')
     (Q:=λc st'=>(∃r z,c=Eu/\Done a.toList b.toList r.toList/\Kp st st')\/∃o2 i2 j2 g2 ac bc,c=Pi/\Mg a.toList b.toList o2.toList i2 j2/\i2+1<a.size/\j2<b.size/\i'+j'<=i2+j2/\Kp st st') ?_ ?_ ⟨_,_,_,_,_,_,rfl,m',d1,d2,∅,kp'⟩) ?_)
    ·rintro y c st3 _ hy ⟨o2,i2,j2,g2,ac2,bc2,rfl,m2,e1,e2,e3,kp3⟩
     dsimp -zeta only
     obtain⟨t2,q2,eb⟩:=Xh hb e2;obtain⟨u2,r2,ea⟩:=Xh ha (show i2<a.size by omega);refine' (λ(key:∀gg,(_:Nat->Prop) gg)=>_) _
     rotate_left
     ·by_cases hg:g2>1
      ·refine XH hg ?_
       generalize g2-1=gg;exact key gg
      ·refine XF hg ?_
       exact key g2
     ·intro gg
      refine vL Bw;replace kp4:=kp3.trans kp4;have hk4:kindOf st4=uH:=kp4.kind.trans hk;refine vL EE;refine vL (Xw (k:=K b j2) ha hk4 ∅ ∅ LC λk g1 g2 g3=>?_)
      dsimp -zeta only
      refine' (λ(key:∀(oA:bj)(iA:Nat),Mg a.toList b.toList oA.toList iA j2->iA+1<a.size->K b j2<=K a iA->i2<=iA->(_:Array vS->Nat->Prop) oA iA)=>_) _
      rotate_left
      ·by_cases hk0:k>0
       ·refine XH hk0 ?_
        have mA:=m2.a sa k (λx hx y hy=>ye (zA2 (v:=K b j2) (λt h1 h2=>zAZ.1 (g2 t h1)) x hx) (Wj sb (drop_one eb) y hy));have mA:Mg a.toList b.toList (o2++a.extract i2 (i2+k)).toList (i2+k) j2:=by rw[yK,zA9];exact mA
        by_cases z:i2+k+1=a.size
        ·refine XH (by rw[z];exact beq_self_eq_true _) ?_
         exact vN (.inl ⟨_,_,rfl,mA.dL sa sb hl z,kp4⟩)
        refine XF ⇑z ?_
        by_cases z':i2+k=a.size
        ·refine XH (by rw[z'];exact beq_self_eq_true _) ?_
         exact vN (.inl ⟨_,_,rfl,mA.dA sa sb ∅,kp4⟩)
        refine XF ⇑z' ?_;have i1:i2+k+1<a.size:=∅
        have hlt:K b j2<=K a (i2+k):=yg (zAZ.2 (g3 k bX ∅));have le1:i2<=i2+k:=∅
        generalize o2++a.extract i2 (i2+k)=oA at mA ⊢;generalize i2+k=iA at mA i1 hlt le1 ⊢;exact key _ _ mA i1 hlt le1
       ·refine XF hk0 ?_
        have mA:=m2;have i1:i2+1<a.size:=e1;have hlt:K b j2<=K a i2:=yg (zAZ.2 (g3 0 ∅ ∅));generalize o2=oA at mA ⊢;generalize hiA:i2=iA at mA i1 hlt ⊢;have le1:i2<=iA:=∅
        exact key _ _ mA i1 hlt le1
      ·intro oA iA mA i1 hlt le1
       obtain⟨u3,r3,eA⟩:=Xh ha (show iA<a.size by omega);have mB:=mA.b1 sa sb eb eA hlt;refine vL EE
       by_cases z3:j2+1=b.size
       ·refine XH (by rw[z3];exact beq_self_eq_true _) ?_
        exact vN (.inl ⟨_,_,rfl,mB.dB sa sb ∅,kp4⟩)
       refine XF ⇑z3 ?_;refine vL Of;refine vL (Xw (k:=K a iA) hb hk4 ∅ ∅ LB λk2 p1 p2 p3=>?_)
       dsimp -zeta only
       refine' (λ(key2:∀(oB:bj)(jB:Nat),Mg a.toList b.toList oB.toList iA jB->jB<b.size->K a iA<=K b jB->j2+1<=jB->(_:Array vS->Nat->Prop) oB jB)=>_) _
       rotate_left
       ·by_cases hk2:k2>0
        ·refine XH hk2 ?_
         have mC:=mB.b sb k2 (λx hx y hy=>ye (zA2 (v:=K a iA) (λt h1 h2=>yg (zAb.1 (p2 t h1))) x hx) (Wj sa (drop_one eA) y hy));rw[<- zA9,<- yK]at mC
         by_cases z4:j2+1+k2=b.size
         ·refine XH (by rw[z4];exact beq_self_eq_true _) ?_
          exact vN (.inl ⟨_,_,rfl,mC.dB sa sb ∅,kp4⟩)
         refine XF ⇑z4 ?_;have j1:j2+1+k2<b.size:=∅
         have hle:K a iA<=K b (j2+1+k2):=zAb.2 (p3 k2 bX ∅);have le2:j2+1<=j2+1+k2:=∅
         generalize oA.push Ol++b.extract (j2+1) (j2+1+k2)=oB at mC ⊢;generalize j2+1+k2=jB at mC j1 hle le2 ⊢;exact key2 _ _ mC j1 hle le2
        ·refine XF hk2 ?_
         have mC:=mB;have j1:j2+1<b.size:=∅
         have hle:K a iA<=K b (j2+1):=zAb.2 (p3 0 ∅ ∅);generalize oA.push Ol=oB at mC ⊢;generalize hjB:j2+1=jB at mC j1 hle ⊢;have le2:j2+1<=jB:=∅
         exact key2 _ _ mC j1 hle le2
       ·intro oB jB mC j1 hle le2
        obtain⟨t5,q5,eB⟩:=Xh hb j1;have mD:=mC.a1 sa sb eA eB hle;refine vL Of
        by_cases z5:iA+1+1=a.size
        ·refine XH (by rw[z5];exact beq_self_eq_true _) ?_
         exact vN (.inl ⟨_,_,rfl,mD.dL sa sb hl z5,kp4⟩)
        refine XF ⇑z5 ?_
        by_cases z6:(decide (k<7)&&decide (k2<7))=true
        ·refine XH z6 ?_
         exact vN (.inr Gp)
        ·refine XF z6 ?_
         exact vN Gp
    ·rintro c st3 ⟨o2,i2,j2,g2,ac2,bc2,rfl,m2,e1,e2,e3,kp3⟩
     omega
    ·rintro c st3 (⟨r,z,rfl,dn,kp3⟩|⟨o2,i2,j2,g2,ac2,bc2,rfl,m2,e1,e2,e3,kp3⟩)
     ·exact vN Ve
     ·dsimp -zeta only
      refine vL Bw;exact vN ⟨_,_,_,_,rfl,m2,e1,e2,∅,kp3.trans kp4⟩
 ·rintro c st1 ⟨o,i,j,g,rfl,m,b1,b2,b3,kp⟩
  omega
 ·rintro c st1 ⟨r,z,rfl,dn,kp⟩
  exact vN acU
end
end So
set_option maxHeartbeats 1000000
namespace So
open PySem PyProof.Rows
structure Mh (al bl out:List vS) (i j:Nat):Prop where
 perm:(al.take i++(bl.take j++out.reverse)).Perm (al++bl)
 srt:Srt out.reverse
 lea:∀x∈al.take i,∀y∈out,Le x y
 leb:∀x∈bl.take j,∀y∈out,Le x y
theorem Xu{l:dw}(h:Srt l)(k:Nat):Srt (l.take k):=h.sublist (ZK k l)
theorem zB3(l:dw){i k:Nat}(h:k<=i):l.take i=l.take k++(l.take i).drop k:=by
 have:=(yF k (l.take i)).symm;rw[wd,wx h]at this;exact this
variable{al bl out:List vS}{i j:Nat}
theorem Mh.a(m:Ef)(sa:Qv){k:Nat}(hk:k<=i)(h:∀x∈bl.take j,∀y∈(al.take i).drop k,Le x y):Mh al bl (out++((al.take i).drop k).reverse) k j:=by
 have e:=zB3 al hk;have sd:Srt (al.take k++(al.take i).drop k):=by rw[<- e];exact Xu sa i
 obtain⟨s1,s2,s3⟩:=zc.mp sd;refine CM
 ·rw[xY,xS]
  refine xG ?_ m.perm;have e2:al.take i++Pv=al.take k++((al.take i).drop k++Pv):=by rw[<- zM (al.take k),<- e]
  rw[e2];refine yS _ ?_;rw[<- zM,<- zM];exact xE _ yq
 ·rw[xY,xS]
  exact zc.mpr ⟨s2,m.srt,λx hx y hy=>m.lea x (xT hx) y nr⟩
 ·rcases zK.mp hy with hy|hy
  ·exact m.lea x (by rw[e];exact zV _ hx) y hy
  ·exact s3 x hx y nr
 ·rcases zK.mp hy with hy|hy
  ·exact m.leb x hx y hy
  ·exact h x hx y nr
theorem Mh.b(m:Ef)(sb:U1){k:Nat}(hk:k<=j)(h:∀x∈al.take i,∀y∈(bl.take j).drop k,Le x y):Mh al bl (out++((bl.take j).drop k).reverse) i k:=by
 have e:=zB3 bl hk;have sd:Srt (bl.take k++(bl.take j).drop k):=by rw[<- e];exact Xu sb j
 obtain⟨s1,s2,s3⟩:=zc.mp sd;refine CM
 ·rw[xY,xS]
  have e2:bl.take k++((bl.take j).drop k++out.reverse)=bl.take j++out.reverse:=by rw[<- zM (bl.take k),<- e]
  rw[e2];exact m.perm
 ·rw[xY,xS]
  exact zc.mpr ⟨s2,m.srt,λx hx y hy=>m.leb x (xT hx) y nr⟩
 ·rcases zK.mp hy with hy|hy
  ·exact m.lea x hx y hy
  ·exact h x hx y nr
 ·rcases zK.mp hy with hy|hy
  ·exact m.leb x (by rw[e];exact zV _ hx) y hy
  ·exact s3 x hx y nr
theorem Mh.done(m:Ef)(sa:Qv)(sb:U1)(h:∀x∈al.take i,∀y∈bl.take j,Le x y):Done al bl (al.take i++bl.take j++out.reverse):=by
 refine⟨by rw[zM];exact m.perm,?_⟩;refine zc.mpr ⟨zc.mpr ⟨Xu sa i,Xu sb j,h⟩,m.srt,fT⟩;exact(zK.mp hx).elim P9 P8
theorem Mh.first(m:Ef)(sa:Qv)(sb:U1)(h:∀y∈bl.take j,∀x∈al.take i,Le y x):Done al bl (bl.take j++al.take i++out.reverse):=by
 refine MX
 ·refine xG ?_ m.perm
  rw[<- zM];exact xE _ yq
 ·refine zc.mpr ⟨zc.mpr ⟨Xu sb j,Xu sa i,h⟩,m.srt,fT⟩
  exact(zK.mp hx).elim P8 P9
theorem take_one{xs:bj}{i:Nat}{p:vS}(h:xs[i]?=some p):(xs.toList.take (i+1)).drop i=[p]:=by
 obtain⟨hi,e⟩:=ZG.mp h;rw[ZD,xI ⇑hi];simp[e]
theorem Wi{xs:bj}(s:Srt xs.toList){i:Nat}{p:vS}(h:xs[i]?=some p):∀y∈xs.toList.take (i+1),Le y p:=by
 have sd:=Xu s (i+1);have e:=zB3 xs.toList (show i<=i+1 by omega);rw[take_one h]at e;rw[e]at sd ⊢;intro y hy;rcases zK.mp hy with hy|hy
 ·exact(zc.mp sd).2.2 y hy p (by simp)
 ·have:y=p:=by simpa using hy
  rw[this];exact yE _
theorem Mh.a1{a b out:bj}{i j:Nat}{p q:vS}(m:EI)(sa:j7)(sb:j6)(hp:a[i]?=some p)(hq:b[j]?=some q)(h:Le q p):Mh a.toList b.toList (out.push p).toList i (j+1):=by
 have:=m.a sa (k:=i) ∅ (by
  rw[M3];intro x hx y hy;have:y=p:=by simpa using hy
  subst this;exact ye (Wi sb hq x hx) h)
 rw[M3]at this;simpa using this
theorem Mh.b1{a b out:bj}{i j:Nat}{p q:vS}(m:EI)(sa:j7)(sb:j6)(hp:b[j]?=some p)(hq:a[i]?=some q)(h:Le q p):Mh a.toList b.toList (out.push p).toList (i+1) j:=by
 have:=m.b sb (k:=j) ∅ (by
  rw[M3];intro x hx y hy;have:y=p:=by simpa using hy
  subst this;exact ye (Wi sa hq x hx) h)
 rw[M3]at this;simpa using this
theorem zCQ{xs:bj}{i:Nat}:(xs.extract 0 i).toList=xs.toList.take i:=by
 rw[xw,wQ];simp
theorem zA0{xs:bj}{i k:Nat}:(xs.extract k i).toList=(xs.toList.take i).drop k:=by
 rw[xw,wQ,ZD]
theorem Mh.d0{a b out:bj}{i j:Nat}(m:Jx)(sa:j7)(sb:j6)(h:i=0\/j=0):Done a.toList b.toList (a.extract 0 i++b.extract 0 j++out.reverse).toList:=by
 have:=m.done sa sb (λx hx y hy=>by
  rcases h with rfl|rfl
  ·simp at hx
  ·simp at hy)
 rw[yK,yK,zCQ,zCQ,wI];exact this
theorem Mh.dF{a b out:bj}{i j:Nat}(m:Jx)(sa:j7)(sb:j6)(hf:∀y∈b.toList.take 1,∀x∈a.toList,Le y x)(h:j=1):Done a.toList b.toList (b.extract 0 j++a.extract 0 i++out.reverse).toList:=by
 have:=m.first sa sb (λy hy x hx=>hf y (by rw[h]at hy;exact hy) x (xz hx))
 rw[yK,yK,zCQ,zCQ,wI];exact this
end So
set_option maxHeartbeats 1000000
namespace So
open PySem PyProof.Rows
noncomputable def zCO:Array vS->Array vS->StateT ve Sem bj:=sortPriv% PySem.Builtin.mergeHi
section
variable{prog:vU}{w:vY}{A:vg}{E:vB->vC->Prop}{s:vC}
theorem zA6{xs:bj}{i k:Nat}{v:Int}(h:∀t,k<=t->t<i->v<=K xs t):∀x∈(xs.toList.take i).drop k,v<=ke x:=by
 intro x hx;obtain⟨t,ht,e⟩:=zY.mp hx;rw[xx,xD]at e;rw[yO,zf]at ht;have hl:k+t<xs.size:=by simp at ht;omega
 have e2:xs[k+t]?=some x:=by rw[getElem?_pos xs (k+t) hl,<- e];rfl
 have:=h (k+t) ∅ ∅;rw[zB0 e2]at this;exact this
theorem zAz{a b:bj}{st:ve}{Q:ab4}(ha:IntKeys a)(hb:IntKeys b)(sa:j7)(sb:j6)(na:1<=a.size)(nb:1<=b.size)(h1:K b (b.size-1)<=K a NY)(hf:∀y∈b.toList.take 1,∀x∈a.toList,Le y x)(hk:mq)(h:∀r st',Done a.toList b.toList r.toList->Kp st st'->Q r st'):wpS ap A E s (zCO a b) Q st:=by
 refine vL fU;obtain⟨t0,q0,ea0⟩:=Xh ha (show a.size-1<a.size by omega);obtain⟨u0,r0,eb0⟩:=Xh hb (show b.size-1<b.size by omega);refine vL (XY ea0 ?_);have m0:Mh a.toList b.toList (#[]:Array vS).toList (a.size-1+1) (b.size-1+1):=by
  rw[show a.size-1+1=a.size by omega,show b.size-1+1=b.size by omega];refine⟨?_,xU,λx _ y hy=>by simp at hy,λx _ y hy=>by simp at hy⟩;rw[yy (by simp),yy (by simp)];simp
 have m1:=m0.a1 sa sb ea0 eb0 (show K b (b.size-1)<=K a NY from h1);rw[show b.size-1+1=b.size by omega]at m1;have m1:Mh a.toList b.toList (#[(Value.int (K a NY) t0,q0)]:Array vS).toList NY b.size:=m1
 dsimp -zeta only
 by_cases z1:a.size-1=0
 ·refine XH (by rw[z1];rfl) ?_
  exact vN (h _ st (m1.d0 sa sb (.inl z1)) Cf)
 refine XF ⇑z1 ?_
 by_cases z2:b.size=1
 ·refine XH (by rw[z2];rfl) ?_
  exact vN (h _ st (m1.dF sa sb hf z2) Cf)
 refine XF ⇑z2 ?_;refine vL pV;refine vL (uG (vj
  (I:=λx c st'=>∃o i j g,c=(none,i,j,o,g)/\Mh a.toList b.toList o.toList i j/\1<=i/\2<=j/\i<=a.size/\j<=b.size/\x+1+i+j<=a.size+b.size/\Kp st st')
  (Q:=λc st'=>∃r z,c=Eu/\Done a.toList b.toList r.toList/\Kp st st') ?_ ?_ ⟨_,_,_,_,rfl,m1,∅,∅,∅,∅,∅,Cf⟩) ?_)
 ·rintro x c st1 _ hx ⟨o,i,j,g,rfl,m,b1,b2,b3,b4,b5,kp⟩
  dsimp -zeta only
  refine vL (uG (vj
   (I:=λy c st'=>∃o' i' j' ac bc,c=RY/\Mh a.toList b.toList o'.toList i' j'/\1<=i'/\2<=j'/\i'<=a.size/\j'<=b.size/\y+i'+j'<=i+j/\Kp st st')
   (Q:=λc st'=>(∃r z,c=Eu/\Done a.toList b.toList r.toList/\Kp st st')\/∃o' i' j' ac bc,c=RY/\Mh a.toList b.toList o'.toList i' j'/\1<=i'/\2<=j'/\i'<=a.size/\j'<=b.size/\1+i'+j'<=i+j/\Kp st st') ?_ ?_ ⟨_,_,_,_,_,rfl,m,b1,b2,b3,b4,∅,kp⟩) ?_)
  ·rintro y c st2 _ hy ⟨o',i',j',ac,bc,rfl,m',c1,c2,c3,c4,c5,kp'⟩
   dsimp -zeta only
   obtain⟨i',rfl⟩:∃n,i'=n+1:=⟨i'-1,∅⟩;obtain⟨j',rfl⟩:∃n,j'=n+1:=⟨j'-1,∅⟩;obtain⟨t1,q1,eb⟩:=Xh hb (show j'<b.size by omega);obtain⟨u1,r1,ea⟩:=Xh ha (show i'<a.size by omega);have hk':kindOf st2=uH:=kp'.kind.trans hk;refine vL FQ
   dsimp -zeta only
   by_cases hw:K b j'<K a i'
   ·refine XH (vT hw) ?_
    have m2:=m'.a1 sa sb ea eb (show K b j'<=K a i' by omega);refine vL (XY ea ?_)
    by_cases z:i'=0
    ·refine XH (by rw[z];rfl) ?_
     exact vN (.inl ⟨_,_,rfl,m2.d0 sa sb Ng,kp'⟩)
    ·refine XF ⇑z ?_
     split
     ·exact vN (.inr gF)
     ·exact vN gF
   ·refine XF (λh=>hw iM) ?_
    have m2:=m'.b1 sa sb eb ea (show K a i'<=K b j' by omega);refine vL EE
    by_cases z:j'=1
    ·refine XH (by rw[z];rfl) ?_
     exact vN (.inl ⟨_,_,rfl,m2.dF sa sb hf z,kp'⟩)
    ·refine XF ⇑z ?_
     split
     ·exact vN (.inr gF)
     ·exact vN gF
  ·rintro c st2 ⟨o',i',j',ac,bc,rfl,m',c1,c2,c3,c4,c5,kp'⟩
   omega
  ·rintro c st2 (⟨r,z,rfl,dn,kp'⟩|⟨o',i',j',ac,bc,rfl,m',c1,c2,c3,c4,c5,kp'⟩)
   ·exact vN Vf
   ·dsimp -zeta only
    refine vL fU;refine vL (uG (vj
     (I:=λy c st'=>∃o2 i2 j2 g2 ac bc,c=Pj/\Mh a.toList b.toList o2.toList i2 j2/\1<=i2/\2<=j2/\i2<=a.size/\j2<=b.size/\y+i2+j2<=i'+j'/\Kp st st')
     (Q:=λc st'=>(∃r z,c=Eu/\Done a.toList b.toList r.toList/\Kp st st')\/∃o2 i2 j2 g2 ac bc,c=Pj/\Mh a.toList b.toList o2.toList i2 j2/\1<=i2/\2<=j2/\i2<=a.size/\j2<=b.size/\i2+j2<=i'+j'/\Kp st st') ?_ ?_ ⟨_,_,_,_,_,_,rfl,m',c1,c2,c3,c4,∅,kp'⟩) ?_)
    ·rintro y c st3 _ hy ⟨o2,i2,j2,g2,ac2,bc2,rfl,m2,e1,e2,e3,e4,e5,kp3⟩
     dsimp -zeta only
     obtain⟨jB,rfl⟩:∃n,j2=n+1:=⟨j2-1,∅⟩;obtain⟨t2,q2,eb⟩:=Xh hb (show jB<b.size by omega);refine' (λ(key:∀gg,(_:Nat->Prop) gg)=>_) _
     rotate_left
     ·by_cases hg:g2>1
      ·refine XH hg ?_
       generalize g2-1=gg;exact key gg
      ·refine XF hg ?_
       exact key g2
     ·intro gg
      refine vL Bw;replace kp4:=kp3.trans kp4;have hk4:kindOf st4=uH:=kp4.kind.trans hk;refine vL EE;refine vL (Xw (k:=K b jB) ha hk4 ∅ ∅ LC λk g1 g2 g3=>?_);simp only[xZ]at g2 g3
      dsimp -zeta only
      refine' (λ(key:∀(oA:bj)(kA iA:Nat),Mh a.toList b.toList oA.toList iA (jB+1)->K a (iA-1)<=K b jB->(1<=iA/\iA<=i2)->(_:Array vS->Nat->Nat->Prop) oA kA iA)=>_) _
      rotate_left
      ·by_cases hk0:i2-k>0
       ·refine XH hk0 ?_
        have mA:=m2.a sa g1 (λx hx y hy=>ye (Wi sb eb x hx) (zA6 (v:=K b jB) (λt h1 h2=>yg (zAZ.2 (g3 t h1 h2))) y hy));have mA:Mh a.toList b.toList (o2++(a.extract k i2).reverse).toList k (jB+1):=by rw[yK,wI,zA0];exact mA
        by_cases z:k=0
        ·refine XH (by rw[z];rfl) ?_
         exact vN (.inl ⟨_,_,rfl,mA.d0 sa sb Ng,kp4⟩)
        refine XF ⇑z ?_;have hle:K a (k-1)<=K b jB:=zAZ.1 (g2 (k-1) ∅);have i1:1<=k/\k<=i2:=⟨∅,g1⟩;generalize o2++(a.extract k i2).reverse=oA at mA ⊢;generalize i2-k=kA;generalize k=iA at mA hle i1 ⊢;exact key oA kA iA mA hle i1
       ·refine XF hk0 ?_
        have mA:=m2;have hle:K a (i2-1)<=K b jB:=zAZ.1 (g2 (i2-1) ∅);have i1:1<=i2/\i2<=i2:=⟨e1,bX⟩;generalize o2=oA at mA ⊢;generalize i2-k=kA;generalize hiA:i2=iA at mA hle ⊢;rw[hiA]at i1;have i1:1<=iA/\iA<=i2:=⟨i1.1,∅⟩;exact key oA kA iA mA hle i1
      ·intro oA kA iA mA hle i1
       obtain⟨iB,rfl⟩:∃n,iA=n+1:=⟨iA-1,∅⟩
       dsimp -zeta only[Zs]at hle ⊢
       obtain⟨u3,r3,eA⟩:=Xh ha (show iB<a.size by omega);have mB:=mA.b1 sa sb eb eA hle;refine vL EE
       by_cases z3:jB=1
       ·refine XH (by rw[z3];rfl) ?_
        exact vN (.inl ⟨_,_,rfl,mB.dF sa sb hf z3,kp4⟩)
       refine XF ⇑z3 ?_;refine vL Of;refine vL (Xw (k:=K a iB) hb hk4 ∅ ∅ LB λk2 p1 p2 p3=>?_);simp only[xZ]at p2 p3
       dsimp -zeta only
       refine' (λ(key2:∀(oB:bj)(kB jC:Nat),Mh a.toList b.toList oB.toList (iB+1) jC->K b (jC-1)<=K a iB->(2<=jC/\jC<=jB)->(_:Array vS->Nat->Nat->Prop) oB kB jC)=>_) _
       rotate_left
       ·by_cases hk2:jB-k2>0
        ·refine XH hk2 ?_
         have mC:=mB.b sb p1 (λx hx y hy=>ye (Wi sa eA x hx) (zA6 (v:=K a iB) (λt h1 h2=>zAb.2 (p3 t h1 h2)) y hy));rw[<- zA0,<- wI,<- yK]at mC
         by_cases z4:k2=1
         ·refine XH (by rw[z4];rfl) ?_
          exact vN (.inl ⟨_,_,rfl,mC.dF sa sb hf z4,kp4⟩)
         refine XF ⇑z4 ?_
         by_cases z4':k2=0
         ·refine XH (by rw[z4'];rfl) ?_
          exact vN (.inl ⟨_,_,rfl,mC.d0 sa sb (.inr z4'),kp4⟩)
         refine XF ⇑z4' ?_;have hle2:K b (k2-1)<=K a iB:=yg (zAb.1 (p2 (k2-1) ∅));have j1:2<=k2/\k2<=jB:=⟨∅,p1⟩;generalize oA.push Oj++(b.extract k2 jB).reverse=oB at mC ⊢;generalize jB-k2=kB;generalize k2=jC at mC hle2 j1 ⊢;exact key2 oB kB jC mC hle2 j1
        ·refine XF hk2 ?_
         have mC:=mB;have hle2:K b (jB-1)<=K a iB:=yg (zAb.1 (p2 (jB-1) ∅));generalize oA.push Oj=oB at mC ⊢;generalize jB-k2=kB;generalize hjC:jB=jC at mC hle2 ⊢;have j1:2<=jC/\jC<=jB:=QG;exact key2 oB kB jC mC hle2 j1
       ·intro oB kB jC mC hle2 j1
        obtain⟨jD,rfl⟩:∃n,jC=n+1:=⟨jC-1,∅⟩
        dsimp -zeta only[Zs]at hle2
        obtain⟨t5,q5,eB⟩:=Xh hb (show jD<b.size by omega);have mD:=mC.a1 sa sb eA eB hle2;refine vL Of
        by_cases z5:iB=0
        ·refine XH (by rw[z5];rfl) ?_
         exact vN (.inl ⟨_,_,rfl,mD.d0 sa sb (.inl z5),kp4⟩)
        refine XF ⇑z5 ?_
        by_cases z6:(decide (kA<7)&&decide (kB<7))=true
        ·refine XH z6 ?_
         exact vN (.inr Cj)
        ·refine XF z6 ?_
         exact vN Cj
    ·rintro c st3 ⟨o2,i2,j2,g2,ac2,bc2,rfl,m2,e1,e2,e3,e4,e5,kp3⟩
     omega
    ·rintro c st3 (⟨r,z,rfl,dn,kp3⟩|⟨o2,i2,j2,g2,ac2,bc2,rfl,m2,e1,e2,e3,e4,e5,kp3⟩)
     ·exact vN Ve
     ·dsimp -zeta only
      refine vL Bw;exact vN ⟨_,_,_,_,rfl,m2,e1,e2,e3,e4,∅,kp3.trans kp4⟩
 ·rintro c st1 ⟨o,i,j,g,rfl,m,b1,b2,b3,b4,b5,kp⟩
  omega
 ·rintro c st1 ⟨r,z,rfl,dn,kp⟩
  exact vN acU
end
end So
set_option maxHeartbeats 1000000
namespace So
open PySem PyProof.Rows
theorem zC9{P:dw}{x y:vS}{S:dw}{n:Nat}(h:n=P.length):(P++x::S).set n y=P++y::S:=by
 subst h;rw[List.set_append_right _ _ bX,wY];rfl
theorem zBH(s:Nat):∀(ys:dw)(n:Nat)(xs:bj)(P M S:dw),xs.toList=P++M++S->P.length=s+n->M.length=ys.length ->
  ((ys.zipIdx n).foldl (λa p=>a.setIfInBounds (s+p.2) p.1) xs).toList=P++ys++S
 | [],n,xs,P,M,S,h,hp,hm=>by
  have:M=[]:=ZT.mp hm;subst this;exact h
 | y::ys,n,xs,P,M,S,h,hp,hm=>by
  cases M with
  | nil=>cases hm
  | cons x M=>
   rw[List.zipIdx_cons,Zf];have h2:(xs.setIfInBounds (s+n) y).toList=(P++[y])++M++S:=by
    rw[ZH,h];have:P++x::M++S=P++x::(M++S):=by simp
    rw[this,zC9 ∅];simp
   rw[zBH s ys (n+1) _ (P++[y]) M S h2 (by simp;omega) ⇑hm];simp
section
variable{prog:vU}{w:vY}{A:vg}{E:vB->vC->Prop}{s:vC}
theorem Ws{xs ys:bj}(h:IntKeys xs)(hs:∀p∈ys.toList,p∈xs.toList):IntKeys ys:=λp hp=>h p (hs p hp)
theorem zB4{X M Y:dw}(h1:Srt X)(h2:Srt M)(h3:Srt Y)(h12:∀x∈X,∀y∈M,Le x y)(h13:∀x∈X,∀y∈Y,Le x y)(h23:∀x∈M,∀y∈Y,Le x y):Srt (X++M++Y) :=
 zc.mpr ⟨zc.mpr ⟨h1,h2,h12⟩,h3,λx hx y hy=>(zK.mp hx).elim (λhx=>h13 x hx y hy) (λhx=>h23 x hx y hy)⟩
theorem zCs{σ:Type}{M:Model}{x:σ}{Q:PUnit->σ->Prop}{st:σ}(h:Q ⟨⟩ x):wpS M A E s (set x:StateT σ Sem PUnit) Q st:=by
 unfold wpS;rw[StateT.run_set];exact vG ⟨rfl,h⟩
theorem zC7{arr:bj}{P X S:dw}{s0 t:Nat}(hl:BU)(hp:Na)(ht:Pb):arr[s0+t]?=X[t]?:=by
 rw[<- zd,hl,zM,zb ∅,show s0+t-P.length=t by omega,ze ht]
theorem W6{arr:bj}{P X S:dw}{s0 t:Nat}(hl:BU)(hp:Na)(ht:Pb):K arr (s0+t)=ke X[t]:=by
 have:=zC7 hl hp ht;rw[zA ht]at this;exact zB0 this
theorem zAK{arr:bj}{P X S:dw}{s0:Nat}(hl:BU)(hp:Na)(hs:Srt X):∀i j,i<=j->j<X.length->K arr (s0+i)<=K arr (s0+j):=λi j h1 h2=>by
 rw[W6 hl hp ∅,W6 hl hp h2];rcases zz i j with z|z
 ·exact yY.mp hs i j ∅ h2 z
 ·have:i=j:=∅
  subst this;exact yE _
theorem WP{X:dw}{k:Nat}{x:vS}(h:x∈X.take k):∃t,∃(ht:Pb),t<k/\X[t]=x:=by
 obtain⟨t,ht,e⟩:=zY.mp h;rw[zf]at ht;rw[xD]at e;exact⟨t,∅,∅,e⟩
theorem WO{X:dw}{k:Nat}{x:vS}(h:x∈X.drop k):∃t,∃(ht:Pb),k<=t/\X[t]=x:=by
 obtain⟨t,ht,e⟩:=zY.mp h;rw[yO]at ht;rw[xx]at e;exact⟨k+t,∅,∅,e⟩
theorem zB6{arr:bj}{P X S:dw}{s0 e0:Nat}(hl:BU)(hp:Na)(he:e0=s0+X.length):(arr.extract s0 e0).toList=X:=by
 rw[zA0,hl,zM];subst he;rw[<- hp,<- zD,<- zM,Yq,List.drop_left]
theorem zAt{st:ve}{i sa na pw sb nb pw2:Nat}{P S RA RB:dw}{Q:HL}(h0:PQ)(hk:mq)(hfl:uT st=none)(p1:(vf st)[i]?=some (sa,na,pw))(p2:(vf st)[i+1]?=some (sb,nb,pw2))(hl:(vM st).toList=P++RA++RB++S)(lP:P.length=sa)(lA:RA.length=na)(lB:RB.length=nb)(hsb:sb=sa+na)(n1:1<=na)(n2:1<=nb)(sA:Srt RA)(sB:Srt RB)(h:∀st' R,kindOf st'=uH->uT st'=none->vf st'=((vf st).setIfInBounds i Pc).eraseIdxIfInBounds (i+1)->(vM st').toList=P++R++S->R.Perm TV->Srt R->Q true st'):wpS ap A E s (mergeAt' i) Q st:=by
 cases st with
 | mk kd arr pe gl fa=>
 dsimp only[vM,kindOf,vf,uT]at h0 hk hfl p1 p2 hl
 refine vL pV
 dsimp -zeta only
 rw[p1,p2]
 dsimp -zeta only
 refine vL (zCs ?_);generalize hst2:SortSt.mk' kd arr pR gl fa=st2;have k2:kindOf st2=uH:=by rw[<- hst2];exact hk
 have f2:uT st2=none:=by rw[<- hst2];exact hfl
 have pd2:vf st2=(pe.setIfInBounds i Pc).eraseIdxIfInBounds (i+1):=by rw[<- hst2]
 have ar2:vM st2=arr:=by rw[<- hst2]
 change wpS _ _ _ _ _ _ (SortSt.mk' kd arr pR gl fa)
 rw[hst2];have hlA:arr.toList=P++RA++(RB++S):=by rw[hl];simp
 have hlB:arr.toList=(P++RA)++RB++S:=by rw[hl]
 have lPA:(P++RA).length=sb:=by rw[zD];omega
 have hsz:arr.size=sa+na+nb+S.length:=by
  have:=uB wD hl;simp only[zD,zO]at this;omega
 obtain⟨t0,q0,eb0⟩:=Xh h0 (show sb<arr.size by omega);have kb0:K arr sb=ke RB[0]:=W6 (t:=0) hlB lPA ∅;refine vL (XY eb0 ?_);refine vL (Xw (k:=K arr sb) h0 k2 ∅ ∅ (λi j h1 h2=>zAK hlA lP sA i j h1 ∅) λk g1 g2 g3=>?_)
 dsimp -zeta only
 have a1:∀x∈RA.take k,ke x<=K arr sb:=λx hx=>by
  obtain⟨t,ht,hk',rfl⟩:=WP hx;rw[<- W6 hlA lP ht];exact zAZ.1 (g2 t hk')
 have a2:∀x∈RA.drop k,K arr sb<ke x:=λx hx=>by
  obtain⟨t,ht,hk',rfl⟩:=WO hx;rw[<- W6 hlA lP ht];exact zAZ.2 (g3 t hk' ∅)
 have bb:∀x∈RB,K arr sb<=ke x:=λx hx=>by
  obtain⟨t,ht,rfl⟩:=zY.mp hx;rw[<- W6 hlB lPA ht];exact zAK hlB lPA sB 0 t ∅ ht
 by_cases z1:na-k=0
 ·refine XH (by rw[z1];rfl) ?_
  refine vN (h st2 TV k2 f2 pd2 (by rw[ar2,hl];simp) (xm _) Qa);have e:RA.take k=RA:=yy ∅;exact ye (a1 x (by rw[e];exact hx)) (bb y hy)
 refine XF ⇑z1 ?_;have hla:sa+k+(na-k)-1=sa+(na-1):=∅
 rw[hla];obtain⟨t1,q1,ea1⟩:=Xh h0 (show sa+(na-1)<arr.size by omega);have ka:K arr Fz=ke RA[na-1]:=W6 hlA lP ∅;refine vL (XY ea1 ?_);refine vL (Xw (k:=K arr Fz) h0 k2 ∅ ∅ (λi j h1 h2=>zAK hlB lPA sB i j h1 ∅) λm c1 c2 c3=>?_)
 dsimp -zeta only
 have b1:∀x∈RB.take m,ke x<K arr Fz:=λx hx=>by
  obtain⟨t,ht,hk',rfl⟩:=WP hx;rw[<- W6 hlB lPA ht];exact zAb.1 (c2 t hk')
 have b2:∀x∈RB.drop m,K arr Fz<=ke x:=λx hx=>by
  obtain⟨t,ht,hk',rfl⟩:=WO hx;rw[<- W6 hlB lPA ht];exact zAb.2 (c3 t hk' ∅)
 have aa:∀x∈RA,ke x<=K arr Fz:=λx hx=>by
  obtain⟨t,ht,rfl⟩:=zY.mp hx;rw[<- W6 hlA lP ht];exact zAK hlA lP sA t (na-1) ∅ ∅
 by_cases z2:m=0
 ·refine XH (by rw[z2];rfl) ?_
  refine vN (h st2 TV k2 f2 pd2 (by rw[ar2,hl];simp) (xm _) Qa);exact ye (aa x hx) (b2 y (by rw[z2];exact hy))
 refine XF ⇑z2 ?_;have eA:RA=RA.take k++RA.drop k:=(yF k RA).symm;have eB:RB=RB.take m++RB.drop m:=(yF m RB).symm;have hx:(arr.extract (sa+k) sb).toList=RA.drop k:=zB6 (P:=P++RA.take k) (S:=RB++S) (by rw[hlA,zM P (RA.take k),yF]) (by rw[zD,zf];omega) (by rw[yO];omega);have hy:(arr.extract sb (sb+m)).toList=RB.take m:=zB6 (P:=P++RA) (S:=RB.drop m++S) (by rw[hlB,zM (P++RA) (RB.take m),show RB.take m++aeC=RB++S by rw[<- zM,yF],zM (P++RA)]) lPA (by rw[zf];omega);generalize hX:arr.extract (sa+k) sb=X at hx;generalize hY:arr.extract sb (sb+m)=Y at hy;have lX:X.size=na-k:=by rw[<- zO,hx,yO];omega
 have lY:Y.size=m:=by rw[<- zO,hy,zf];omega
 have iX:IntKeys X:=Ws h0 λp hp=>by rw[hx]at hp;rw[hlA];have:=xT hp;simp[this]
 have iY:IntKeys Y:=Ws h0 λp hp=>by rw[hy]at hp;rw[hlB];have:=xz hp;simp[this]
 have sX:Srt X.toList:=by rw[hx];exact Xv sA k
 have sY:Srt Y.toList:=by rw[hy];exact Xu sB m
 have memX:∀i,i<X.size->∃x∈RA.drop k,K X i=ke x:=λi hi=>by
  have e:X[i]?=some X[i]:=getElem?_pos _ i hi;exact⟨X[i],by rw[<- hx];simp,zB0 e⟩
 have memY:∀i,i<Y.size->∃x∈RB.take m,K Y i=ke x:=λi hi=>by
  have e:Y[i]?=some Y[i]:=getElem?_pos _ i hi;exact⟨Y[i],by rw[<- hy];simp,zB0 e⟩
 have q1:∀x∈RA.drop k,∀y∈RB.take 1,Le y x:=λx hx y hy=>by
  obtain⟨t,ht,hk',rfl⟩:=WP hy;have:t=0:=∅
  subst this;have:=a2 x hx;show ke RB[0]<=ke x;rw[<- kb0];omega
 have h1:K Y 0<=K X 0:=by
  obtain⟨x,hx',ex⟩:=memX 0 ∅;have e:Y[0]?=some Y[0]:=getElem?_pos _ 0 ∅;rw[ex,zB0 e];refine q1 x hx' _ ?_;have:Y.toList.take 1=RB.take 1:=by rw[hy,wd];congr 1;omega
  rw[<- this];have:=drop_one e;rw[ZF]at this;rw[this];simp
 have hlast:∀y∈Y.toList,∀x∈X.toList.drop (X.size-1),Le y x:=λy hy' x hx'=>by
  rw[hy]at hy';rw[hx,ZE]at hx';obtain⟨t,ht,hk',rfl⟩:=WO hx';have:t=na-1:=∅
  subst this;have:=b1 y hy';show ke y<=ke RA[na-1];rw[<- ka];omega
 have h1':K Y (Y.size-1)<=K X (X.size-1):=by
  obtain⟨y,hy',ey⟩:=memY (Y.size-1) ∅;have e:X[X.size-1]?=some X[X.size-1]:=getElem?_pos _ _ ∅;rw[ey,zB0 e];refine hlast y (by rw[hy];exact hy') _ ?_;rw[drop_one e];simp
 have hfirst:∀y∈Y.toList.take 1,∀x∈X.toList,Le y x:=λy hy' x hx'=>by
  rw[hy,wd]at hy';rw[hx]at hx';exact q1 x hx' y (by rw[show min 1 m=1 by omega]at hy';exact hy')
 by_cases z3:na-k<=m
 case' pos=>
  refine XH z3 ?_;refine vL (zAw iX iY sX sY ∅ ∅ h1 hlast k2 λr st3 dn kp=>?_)
 case' neg=>
  refine XF z3 ?_;refine vL (zAz iX iY sX sY ∅ ∅ h1' hfirst k2 λr st3 dn kp=>?_)
 all_goals
  rw[hx,hy]at dn;have f3:uT st3=none:=kp.fail.trans f2;have ar3:vM st3=arr:=kp.arr.trans ar2;have pm:(RA.take k++r.toList++RB.drop m).Perm TV:=by
   have:RA++RB=RA.take k++Rr++RB.drop m:=by
    conv=>lhs;rw[eA,eB]
    simp only[zM]
   rw[this];exact xE _ (yS _ dn.perm)
  have inr:∀x∈r.toList,x∈RA.drop k\/x∈RB.take m:=λx hx'=>zK.mp (dn.perm.mem_iff.mp hx');have sAA:Srt (RA.take k++RA.drop k):=by rw[<- eA];exact sA
  have sBB:Srt (RB.take m++RB.drop m):=by rw[<- eB];exact sB
  have sR:Srt Kg:=zB4 (Xu sA k) dn.srt (Xv sB m)
   (λx hx' y hy'=>(inr y hy').elim (λhy'=>(zc.mp sAA).2.2 x hx' y hy') (λhy'=>ye (a1 x hx') (bb y (xz hy'))))
   (λx hx' y hy'=>ye (a1 x hx') (bb y (xT hy')))
   (λx hx' y hy'=>(inr x hx').elim (λhx'=>ye (aa x (xT hx')) (b2 y hy')) (λhx'=>(zc.mp sBB).2.2 x hx' y hy'))
  have lr:r.toList.length=(RA.drop k++RB.take m).length:=dn.perm.length_eq;have hput:=zBH (sa+k) r.toList 0 arr (P++RA.take k) Rr aeC (by
   rw[hl]
   conv=>lhs;rw[eA,eB]
   simp only[zM]) (by rw[zD,zf];omega) lr.symm
  refine vL (ug (vL pV));have fin:=h (SortSt.mk' (kindOf st3) (ZW (λa x=>a.setIfInBounds (sa+k+x.snd) x.fst) pO r.toList.zipIdx) (vf st3) (gallopOf st3) (uT st3)) Kg (kp.kind.trans k2) f3 (kp.pend.trans pd2) (by
   show (ZW _ pO _).toList=_;rw[ar3,hput];simp only[zM]) pm sR
  show wpS _ _ _ _ (pure (uT st3).isNone) _ _;rw[f3];exact vN fin
end
end So
set_option maxHeartbeats 1000000
namespace So
open PySem PyProof.Rows
def SrK(xs:bj)(lo k:Nat):Prop:=∀i j,i<=j->j<k->K xs Dn<=K xs Js
structure Within (lo hi:Nat) (st st':ve):Prop where
 kind:kindOf st'=kindOf st
 pend:vf st'=vf st
 fail:uT st'=uT st
 perm:(vM st').Perm (vM st)
 out:∀t,(t<lo\/hi<=t)->(vM st')[t]?=(vM st)[t]?
theorem Within.refl(lo hi:Nat)(st:ve):Within lo hi st st:=⟨rfl,rfl,rfl,Zk _,iH⟩
theorem Within.trans{lo hi:Nat}{a b c:ve}(h:Ed)(h':Within lo hi b c):Within lo hi a c:=⟨VX,VW,VY,h'.perm.trans h.perm,λt ht=>(h'.out t ht).trans (h.out t ht)⟩
theorem Within.size{lo hi:Nat}{a b:ve}(h:Ed):(vM b).size=(vM a).size:=h.perm.size_eq
theorem Within.ints{lo hi:Nat}{a b:ve}(h:Ed)(h0:IntKeys (vM a)):IntKeys (vM b):=λp hp=>h0 p Lw
theorem zAE{lo hi:Nat}{st:ve}{ys:bj}(hp:ys.Perm eR)(ho:∀t,(t<lo\/hi<=t)->ys[t]?=(vM st)[t]?):Within lo hi st (setArr st ys):=⟨rfl,rfl,rfl,hp,ho⟩
section
variable{prog:vU}{w:vY}{A:vg}{E:vB->vC->Prop}{s:vC}
theorem Wb{st:ve}{i j:Nat}{Q:FZ}(h0:PQ)(hk:mq)(hi:i<(vM st).size)(hj:j<(vM st).size)(h:Q (some (decide (K eR i<K eR j))) st):wpS ap A E s (ltAt' i j) Q st:=by
 obtain⟨t,p,e1⟩:=Xh h0 hi;obtain⟨u,q,e2⟩:=Xh h0 hj;exact wpS_ltAt hk e1 e2 h
theorem zBP{st:ve}{lo n ok:Nat}{Q:HL}(h0:PQ)(hk:mq)(hn:lo+n<=(vM st).size)(hok:ok<=n)(hs:SrK eR lo ok)(h:∀st',Within lo LL st st'->SrK bR lo n->Q true st'):wpS ap A E s (binarySort' lo n ok) Q st:=by
 refine vL (uG (vj
  (I:=λx c st'=>c=(none,())/\Within lo LL st st'/\SrK bR lo x)
  (Q:=λc st'=>c=(none,())/\Within lo LL st st'/\SrK bR lo n) ?_ ?_ ⟨rfl,aa4,?_⟩) ?_)
 ·rintro k c st1 hk1 hkn ⟨rfl,W,S⟩
  have sz:=W.size;have i0:=W.ints h0;have kd:kindOf st1=uH:=W.kind.trans hk
  dsimp only
  refine vL (uG (vj
   (I:=λy c st'=>st'=st1/\∃l r,c=VP/\l<=r/\r<=k/\r-l<=k-y/\(∀t,t<l->K ki Jr<=K ki LM)/\(∀t,r<=t->t<k->K ki LM<K ki Jr))
   (Q:=λc st'=>st'=st1/\∃l,c=(none,l,l)/\l<=k/\(∀t,t<l->K ki Jr<=K ki LM)/\(∀t,l<=t->t<k->K ki LM<K ki Jr)) ?_ ?_ ⟨rfl,0,k,rfl,∅,∅,∅,λt ht=>∅,λt h1 h2=>∅⟩) ?_)
  ·rintro y c st2 _ hy ⟨rfl,l,r,rfl,b1,b2,b3,b4,b5⟩
   dsimp only
   by_cases z:l>=r
   ·rw[iP]
    have:l=r:=∅
    subst this;exact vN P5
   ·rw[iw]
    refine vL (Wb i0 kd ∅ ∅ ?_)
    dsimp only
    by_cases hc:K mG LM<K mG (lo+(l+r)/2)
    ·rw[SS,lg]
     refine vN ⟨rfl,_,_,rfl,∅,∅,∅,b4,λt h1 h2=>?_⟩;have:=S ((l+r)/2) t h1 h2;omega
    ·rw[vX hc,vJ (by decide)]
     refine vN ⟨rfl,_,_,rfl,∅,∅,∅,λt ht=>?_,b5⟩;have:=S t ((l+r)/2) ∅ ∅;omega
  ·rintro c st2 ⟨rfl,l,r,rfl,b1,b2,b3,b4,b5⟩
   have:l=r:=∅
   subst this;exact P5
  ·rintro c st2 ⟨rfl,l,rfl,b1,b4,b5⟩
   dsimp only
   refine vL (ug ?_);have hsrc:lo+k<(vM st2).size:=∅
   have hd:lo+k-(lo+l)<=lo+k:=∅
   refine vN ⟨rfl,W.trans (zAE UU λt ht=>?_),λi j h1 h2=>?_⟩
   ·show (bubble mG LM Ih)[t]?=_
    rw[getElem?_bubble hsrc _ hd,iW,iW]
   ·show K aaY Dn<=K aaY Js
    rw[rN hsrc hd,rN hsrc hd];have e:lo+k-Ih=lo+l:=∅
    rw[e]
    by_cases c1:i=l
    ·rw[lf]
     by_cases c2:j=l
     ·rw[lf];exact yE _
     ·rw[iW,lf,show lo+j-1=lo+(j-1) by omega]
      exact yg (b5 (j-1) ∅ ∅)
    ·rw[iW]
     by_cases c3:l<i
     ·rw[lf,iW,lf,show lo+i-1=lo+(i-1) by omega,show lo+j-1=lo+(j-1) by omega]
      exact S (i-1) (j-1) ∅ ∅
     ·rw[iW]
      by_cases c2:j=l
      ·rw[lf];exact b4 i ∅
      ·rw[iW]
       by_cases c4:l<j
       ·rw[lf,show lo+j-1=lo+(j-1) by omega]
        exact S i (j-1) ∅ ∅
       ·rw[iW]
        exact S i j h1 ∅
 ·rintro c st1 ⟨rfl,W,S⟩
  refine⟨rfl,W,λi j h1 h2=>S i j h1 ∅⟩
 ·intro i j h1 h2
  by_cases z:ok=0
  ·have:i=j:=∅
   subst this;exact yE _
  ·exact hs i j h1 ∅
 ·rintro c st1 ⟨rfl,W,S⟩
  exact vN (h st1 W S)
end
end So
set_option maxHeartbeats 2000000
namespace So
open PySem PyProof.Rows
section
variable{prog:vU}{w:vY}{A:vg}{E:vB->vC->Prop}{s:vC}
theorem zAJ{st:ve}{lo hi i j:Nat}{Q:Hz}(hi1:lo<=i)(hj:j<=hi)(hs:hi<=(vM st).size)(h:∀st',Within lo hi st st'->(∀k,K bR k=if i<=k/\k<j then K eR acS else K eR k)->Q () st'):wpS ap A E s (reverseSlice' i j) Q st:=by
 rw[reverseSlice'_eq];refine ug (h _ (zAE DP λt ht=>?_) λk=>K_mirror ∅ k);rw[getElem?_mirror_all ∅,iW]
theorem keepK{xs ys:bj}{i j:Nat}(KK:∀k,K ys k=if i<=k/\k<j then K xs acS else K xs k)(e:∀k,i<=k->k<j->K xs k=K xs (j-1))(k:Nat):K ys k=K xs k:=by
 rw[KK k]
 split
 ·rename_i hh
  rw[e acS ∅ ∅,e k hh.1 hh.2]
 ·rfl
theorem zDA{st:ve}{lo nrem:Nat}{Q:nE}(h0:PQ)(hk:mq)(hn:lo+nrem<=(vM st).size)(h1:1<=nrem)(h:∀n st',1<=n->n<=nrem->Within lo K9 st st'->SrK bR lo n->Q (some n) st'):wpS ap A E s (countRun' lo nrem) Q st:=by
 refine vL (uG (vj
  (I:=λx c st'=>st'=st/\c=(none,x)/\x<=nrem/\SrK eR lo x)
  (Q:=λc st'=>st'=st/\∃n,c=(none,n)/\1<=n/\n<=nrem/\SrK eR lo n/\(n<nrem->K eR LL<K eR Kz)) ?_ ?_ ⟨rfl,rfl,h1,λi j h2 h3=>by rw[show i=j by omega];exact yE _⟩) ?_)
 ·rintro x c st1 hx1 hx ⟨rfl,rfl,b1,S⟩
  dsimp only
  refine vL Sf
  dsimp only
  by_cases hc:K ki VR<K ki Ky
  ·refine XH SS ?_
   exact vN ⟨rfl,x,rfl,hx1,b1,S,λ_=>hc⟩
  ·refine XF JI ?_
   refine vN Vd
   by_cases z:j=x
   ·subst z
    by_cases z2:i=j
    ·rw[z2];exact yE _
    ·have:=S i (j-1) ∅ ∅
     rw[show lo+(j-1)=lo+j-1 by omega]at this;omega
   ·exact S i j h2 ∅
 ·rintro c st1 ⟨rfl,rfl,b1,S⟩
  exact⟨rfl,_,rfl,∅,b1,S,λz=>∅⟩
 ·rintro c st1 ⟨rfl,n,rfl,b1,b2,S,b3⟩
  dsimp only
  by_cases z1:n=nrem
  ·refine XH (by rw[z1];exact beq_self_eq_true _) ?_
   exact vN Gz
  refine XF ⇑z1 ?_;have b3:=b3 ∅;have start:∃stA,stA=st1:=bD
  by_cases z2:n>1
  case' pos=>
   refine XH z2 ?_;refine vL Sf
   dsimp only
   by_cases hc:K ki lo<K ki Kz
   ·refine XH SS ?_
    exact vN Gz
   refine XF JI ?_;refine vL (zAJ (lo:=lo) (hi:=lo+nrem) bX ∅ hn λst2 W KK=>?_);have eqs:∀t,t<n->K ki Jr=K ki Kz:=λt ht=>by
    have e1:=S 0 t ∅ ht;have e2:=S t (n-1) ∅ ∅;rw[show lo+(n-1)=lo+n-1 by omega]at e2;rw[Nat.add_zero]at e1;omega
   have same:∀k,K mG k=K ki k:=λk=>by
    rw[KK k]
    split
    ·rename_i hh
     have e1:=eqs aej ∅;have e2:=eqs RZ ∅;rw[show lo+aej=lo+LL-1-k by omega]at e1;rw[show lo+RZ=k by omega]at e2;rw[e1,e2]
    ·rfl
   have eqs:∀t,t<n->K mG Jr=K mG Kz:=λt ht=>by rw[same,same];exact eqs t ht
   have b3:K mG LL<K mG Kz:=by rw[same,same];exact b3
  case' neg=>
   refine XF z2 ?_;have W:Within lo K9 st1 st1:=Within.refl _ _ _;have eqs:∀t,t<n->K ki Jr=K ki Kz:=λt ht=>by rw[show lo+t=lo+n-1 by omega]
   generalize hst2:st1=st2 at eqs b3 ⊢;have W:Within lo K9 st1 st2:=by rw[<- hst2];exact Within.refl _ _ _
  all_goals
   clear start;refine vL fU;refine vL (uG (vj
    (I:=λx c st'=>∃q,c=(none,x,q)/\x<=nrem/\q+1<=x/\Within lo K9 st1 st'/\(∀i j,i<=j->j<x->K bR Js<=K bR Dn)/\(∀t,x-1-q<=t->t<x->K bR Jr=K bR Ky))
    (Q:=λc st'=>∃m q,c=(none,m,q)/\1<=m/\m<=nrem/\q+1<=m/\Within lo K9 st1 st'/\(∀i j,i<=j->j<m->K bR Js<=K bR Dn)/\(∀t,m-1-q<=t->t<m->K bR Jr=K bR (lo+m-1))) ?_ ?_ ⟨0,rfl,∅,∅,W,Fe,λt h2 h3=>by rw[show lo+t=lo+(n+1)-1 by omega]⟩) ?_)
   ·rintro x c st3 hx1 hx ⟨q,rfl,c1,c2,W3,N3,E3⟩
    dsimp only
    have i3:=W3.ints h0;have k3:kindOf st3=uH:=W3.kind.trans hk;have s3:=W3.size;refine vL Se
    dsimp only
    by_cases hc:K pO VR<K pO Ky
    ·refine XH SS ?_
     have N4:∀i j,i<=j->j<x+1->K pO Js<=K pO Dn:=λi j h2 h3=>by
      by_cases z:j=x
      ·subst z
       by_cases z2:i=j
       ·rw[z2];exact yE _
       ·have:=N3 i (j-1) ∅ ∅
        rw[show lo+(j-1)=lo+j-1 by omega]at this;omega
      ·exact N3 i j h2 ∅
     by_cases zq:q>0
     ·refine XH zq ?_
      refine vL Ah;have same:=keepK KK (λk h2 h3=>by
       have:=E3 RZ ∅ ∅;rw[show lo+RZ=k by omega]at this;exact this)
      refine vN ⟨0,rfl,∅,∅,W3.trans W4,λi j h2 h3=>by rw[same,same];exact N4 i j h2 h3,λt h2 h3=>by rw[show lo+t=lo+(x+1)-1 by omega]⟩
     ·refine XF zq ?_
      exact vN ⟨0,rfl,∅,∅,W3,N4,λt h2 h3=>by rw[show lo+t=lo+(x+1)-1 by omega]⟩
    ·refine XF JI ?_
     refine vL Se
     dsimp only
     by_cases hd:K pO Ky<K pO VR
     ·refine XH (vT hd) ?_
      exact vN ⟨x,q,rfl,∅,c1,c2,W3,N3,E3⟩
     ·refine XF (λh=>hd iM) ?_
      have eq:K pO VR=K pO Ky:=∅
      refine vN ⟨q+1,rfl,∅,∅,W3,Fe,λt h2 h3=>?_⟩
      ·by_cases z:j=x
       ·subst z
        by_cases z2:i=j
        ·rw[z2];exact yE _
        ·have:=N3 i (j-1) ∅ ∅
         rw[show lo+(j-1)=lo+j-1 by omega]at this;omega
       ·exact N3 i j h2 ∅
      ·rw[show lo+(x+1)-1=lo+x by omega,eq]
       by_cases z:t=x
       ·rw[z,eq]
       ·exact E3 t ∅ ∅
   ·rintro c st3 ⟨q,rfl,c1,c2,W3,N3,E3⟩
    exact⟨_,q,rfl,∅,c1,c2,W3,N3,E3⟩
   ·by_cases z:j=n
    ·subst z
     by_cases z2:i=j
     ·rw[z2];exact yE _
     ·have:=eqs i ∅
      omega
    ·have e1:=eqs i ∅
     have e2:=eqs j ∅;omega
   ·rintro c st3 ⟨m,q,rfl,c0,c1,c2,W3,N3,E3⟩
    dsimp only
    have s3:=W3.size;have start:∃stA,stA=st3:=bD
    by_cases zq:q>0
    case' pos=>
     refine XH zq ?_;refine vL Ah;have same:=keepK KK (λk h2 h3=>by
      have:=E3 RZ ∅ ∅;rw[show lo+RZ=k by omega]at this;exact this)
     have N4:∀i j,i<=j->j<m->K (vM st4) Js<=K (vM st4) Dn:=λi j h2 h3=>by rw[same,same];exact N3 i j h2 h3
     replace W4:=W3.trans W4
    case' neg=>
     refine XF zq ?_;have N4:=N3;have W4:=W3;generalize hst4:st3=st4 at N4 W4 ⊢
    all_goals
     have s4:=W4.size;refine vL (zAJ (lo:=lo) (hi:=lo+nrem) ∅ ∅ ∅ λst5 W5 KK5=>?_);replace W5:=W4.trans W5;have s5:=W5.size;have i5:=W5.ints h0;have k5:kindOf st5=uH:=W5.kind.trans hk;have S5:SrK (vM st5) lo m:=λi j h2 h3=>by
      rw[KK5 Dn,KK5 Js,lf,lf,show lo+(lo+m)-1-Dn=lo+(m-1-i) by omega,show lo+(lo+m)-1-Js=lo+(m-1-j) by omega];exact N4 (m-1-j) (m-1-i) ∅ ∅
     refine vL (uG (vj
      (I:=λx c st'=>st'=st5/\c=(none,x)/\x<=nrem/\SrK (vM st5) lo x)
      (Q:=λc st'=>st'=st5/\∃n,c=(none,n)/\1<=n/\n<=nrem/\SrK (vM st5) lo n) ?_ ?_ ⟨rfl,rfl,c1,S5⟩) ?_)
     ·rintro x c st6 hx1 hx ⟨rfl,rfl,d1,S6⟩
      dsimp only
      refine vL (Wb i5 k5 ∅ ∅ ?_)
      dsimp only
      by_cases hc:K (vM st6) VR<K (vM st6) Ky
      ·refine XH SS ?_
       exact vN ⟨rfl,x,rfl,∅,d1,S6⟩
      ·refine XF JI ?_
       refine vN Vd
       by_cases z:j=x
       ·subst z
        by_cases z2:i=j
        ·rw[z2];exact yE _
        ·have:=S6 i (j-1) ∅ ∅
         rw[show lo+(j-1)=lo+j-1 by omega]at this;omega
       ·exact S6 i j h2 ∅
     ·rintro c st6 ⟨rfl,rfl,d1,S6⟩
      exact⟨rfl,_,rfl,∅,d1,S6⟩
     ·rintro c st6 ⟨rfl,n',rfl,d0,d1,S6⟩
      exact vN (h n' st6 d0 d1 W5 S6)
end
end So
set_option maxHeartbeats 2000000
namespace So
open PySem PyProof.Rows
def WA:Nat->List adn->List dw->Prop
 | _,[],[]=>True
 | s,p::r,X::Xs=>p.1=s/\p.2.1=X.length/\1<=X.length/\Srt X/\WA (s+X.length) r Xs
 | _,_,_=>False
theorem zAG:∀{s:Nat}{ps:nF}{Xs:TZ},WA s ps Xs->ps.length=Xs.length
 | _,[],[],_=>rfl
 | _,_::_,_::_,h=>by rw[zJ,zJ,zAG h.2.2.2.2]
 | _,[],_::_,h=>h.elim
 | _,_::_,[],h=>h.elim
theorem zBw:∀(i s:Nat)(ps:nF)(Xs:TZ),WA s ps Xs->i+1<ps.length->∃Pre X Y zBb pw pw2,Xs=Pre++X::Y::zBb/\ps[i]?=some (VG,X.length,pw)/\ps[i+1]?=some (s+Pre.flatten.length+X.length,Y.length,pw2)/\1<=X.length/\1<=Y.length/\Srt X/\Srt Y /\
  ∀R:List vS,R.length=X.length+Y.length->Srt R->WA s ((ps.set i (VG,adc,pw)).eraseIdx (i+1)) (Pre++R::zBb)
 | 0,s,ps,Xs,h,hl=>by
  match ps,Xs,h,hl with
  | p::q::r,X::Y::Xs,⟨h1,h2,h3,h4,h5,h6,h7,h8,h9⟩,_=>
   refine⟨[],X,Y,Xs,p.2.2,q.2.2,rfl,?_,?_,h3,h7,h4,h8,λR hR sR=>?_⟩
   ·show some p=_
    rw[<- h2];exact uB some (Prod.ext h1 rfl)
   ·show some q=_
    rw[<- h6];exact uB some (Prod.ext h5 rfl)
   ·refine⟨rfl,hR.symm,∅,sR,?_⟩
    rw[hR,<- wu];exact h9
 | i+1,s,ps,Xs,h,hl=>by
  match ps,Xs,h,hl with
  | p::r,X0::Xs,⟨h1,h2,h3,h4,h5⟩,hl=>
   obtain⟨Pre,X,Y,zBb,pw,pw2,e,g1,g2,g3,g4,g5,g6,g7⟩:=zBw i (s+X0.length) r Xs h5 ⇑hl;refine⟨X0::Pre,X,Y,zBb,pw,pw2,by rw[e];rfl,?_,?_,g3,g4,g5,g6,λR hR sR=>?_⟩
   ·show r[i]?=_
    rw[g1,yB,zD,<- wu]
   ·show r[i+1]?=_
    rw[g2,yB,zD,<- wu s]
   ·have:=g7 R hR sR
    rw[yB,zD,<- wu];exact⟨h1,h2,h3,h4,this⟩
theorem zAc:∀{s:Nat}{ps:nF}{Xs:TZ}{X:dw}{pw:Nat},WA s ps Xs->1<=X.length->Srt X->WA s (ps++[(s+Xs.flatten.length,X.length,pw)]) (Xs++[X])
 | s,[],[],X,pw,_,h1,h2=>⟨rfl,rfl,h1,h2,trivial⟩
 | s,p::r,X0::Xs,X,pw,⟨g1,g2,g3,g4,g5⟩,h1,h2=>by
  refine⟨g1,g2,g3,g4,?_⟩;have:=zAc (pw:=pw) g5 h1 h2;rw[yB,zD,<- wu];exact this
theorem zA3:∀{s:Nat}{ps ps':nF}{Xs:TZ},WA s ps Xs->ps'.map (λp=>Tn)=ps.map (λp=>Tn)->WA s ps' Xs
 | s,[],[],[],_,_=>trivial
 | s,p::r,p'::r',X::Xs,⟨h1,h2,h3,h4,h5⟩,e=>by
  rw[zZ,zZ]at e;obtain⟨e1,e2⟩:=Z2 e;obtain⟨f1,f2⟩:=Prod.mk.inj e1;exact⟨f1.trans h1,f2.trans h2,h3,h4,zA3 h5 e2⟩
 | s,p::r,[],_,_,e=>by cases e
 | s,[],p::r,_,_,e=>by cases e
 | s,p::r,p'::r',[],h,_=>h.elim
structure IV (a₀:Array vS) (st:ve) (lo:Nat) (S:List vS):Prop where
 kind:kindOf st=uH
 fail:uT st=none
 perm:(vM st).Perm a₀
 runs:∃Xs,(vM st).toList=Xs.flatten++S/\WA 0 (vf st).toList Xs/\Xs.flatten.length=lo
section
variable{prog:vU}{w:vY}{A:vg}{E:vB->vC->Prop}{s:vC}
theorem IV.ints{a₀:bj}{st:ve}{lo:Nat}{S:dw}(h:Op)(h0:mw):IntKeys eR:=λp hp=>h0 p Lw
theorem WX{a₀:bj}{st:ve}{lo i:Nat}{S:dw}{Q:HL}(h0:mw)(V:Op)(hi:i+1<(vf st).size)(h:∀st',IV a₀ st' lo S->(vf st').size+1=(vf st).size->Q true st'):wpS ap A E s (mergeAt' i) Q st:=by
 obtain⟨Xs,e1,e2,e3⟩:=V.runs;obtain⟨Pre,X,Y,zBb,pw,pw2,rfl,g1,g2,g3,g4,g5,g6,g7⟩:=zBw i 0 _ _ e2 ⇑hi;rw[xZ]at g1 g2 g7;rw[zd]at g1 g2;have hl:(vM st).toList=Pre.flatten++X++Y++KY:=by
  rw[e1];simp
 refine zAt (V.ints h0) V.kind V.fail g1 g2 hl rfl rfl rfl rfl g3 g4 g5 g6 λst' R k1 k2 k3 k4 k5 k6=>?_;have lR:R.length=X.length+Y.length:=by rw[k5.length_eq,zD]
 refine h st' ⟨k1,k2,?_,Pre++R::zBb,?_,?_,?_⟩ ?_
 ·refine Array.Perm.trans ?_ V.perm
  rw[wJ,k4,hl];have:Pre.flatten++X++Y++KY=Pre.flatten++(X++Y)++KY:=by simp
  rw[this];exact xE _ (yS _ k5)
 ·rw[k4];simp
 ·rw[k3]
  have:=g7 R lR k6;rw[wj,ZH];exact this
 ·rw[<- e3];simp[lR];omega
 ·rw[k3]
  have hi':i+1<((vf st).setIfInBounds i (Pre.flatten.length,adc,pw)).size:=by simpa using hi
  rw[<- zO,wj,List.length_eraseIdx];rw[vH ⇑hi];simp;omega
end
end So
set_option maxHeartbeats 2000000
namespace So
open PySem PyProof.Rows
theorem zAC{α β:Type}{g:α->β}{f:α->α}(h:∀x,g (f x)=g x):∀(l:bH)(i:Nat),(l.modify i f).map g=l.map g
 | [],i=>by simp
 | x::l,0=>by simp[h]
 | x::l,i+1=>by simp[zAC h l i]
theorem zAd:∀{s:Nat}{ps:nF}{Xs:TZ},WA s ps Xs->Xs.length<=Xs.flatten.length
 | _,[],[],_=>zL _
 | _,_::_,X::Xs,h=>by
  have:=zAd h.2.2.2.2;have:=h.2.2.1;rw[zJ,yB,zD];omega
theorem IV.push{a₀:bj}{st:ve}{lo m:Nat}{X S:dw}(V:IV a₀ st lo (X++S))(lX:X.length=m)(h1:1<=m)(sX:Srt X):IV a₀ (setPending st ((vf st).push (lo,m,0))) (lo+m) S:=by
 obtain⟨Xs,e1,e2,e3⟩:=V.runs;refine⟨V.kind,V.fail,V.perm,Xs++[X],?_,?_,?_⟩
 ·show (vM st).toList=_
  rw[e1];simp
 ·show WA 0 ((vf st).push (lo,m,0)).toList _
  have:=zAc (pw:=0) e2 (∅:1<=X.length) sX;rw[xZ,e3,lX]at this;rw[ZM];exact this
 ·rw[wz,zD,e3];simp[lX]
theorem IV.pow{a₀:bj}{st:ve}{lo i pw:Nat}{S:dw}(V:Op):IV a₀ (setPending st ((vf st).modify i λx=>Vx)) lo S:=by
 obtain⟨Xs,e1,e2,e3⟩:=V.runs;refine⟨V.kind,V.fail,V.perm,Xs,e1,?_,e3⟩;show WA 0 ((vf st).modify i λx=>Vx).toList _;refine zA3 e2 ?_;rw[Array.toList_modify];exact zAC (g:=λp:Nat×Nat×Nat=>Tn) (f:=λx=>(x.1,x.2.1,pw)) Gr _ _
theorem Within.wider{lo hi hi':Nat}{a b:ve}(h:Ed)(hh:hi<=hi'):Within lo hi' a b:=⟨h.kind,h.pend,h.fail,h.perm,λt ht=>h.out t ∅⟩
section
variable{prog:vU}{w:vY}{A:vg}{E:vB->vC->Prop}{s:vC}
theorem zAs{a₀:bj}{st:ve}{Q:Hz}(h0:mw)(hB:Ca)(h:∀st',(vM st').Perm a₀->uT st'=none->um bR a₀.size->Q () st'):wpS ap A E s sortRuns' Q st:=by
 rw[sortRuns'_eq];refine vL pV;have hsz:=hB.size
 dsimp -zeta only
 simp -zeta only[hsz];have V0:IV a₀ st 0 (vM st).toList:=⟨hB.kind,hB.failed,hB.perm,[],rfl,by rw[hB.pend];trivial,rfl⟩;refine vL (uG (vj
  (I:=λx c st'=>∃lo S,c=(none,lo)/\IV a₀ st' lo S/\lo<=a₀.size/\(x<=lo\/lo=a₀.size))
  (Q:=λc st'=>c=K8/\∃S,IV a₀ st' a₀.size S) ?_ ?_ ⟨0,_,rfl,V0,pB,.inl bX⟩) ?_)
 ·rintro x c st1 _ hx ⟨lo,S,rfl,V,b1,b2⟩
  dsimp -zeta only
  have hsz1:(vM st1).size=a₀.size:=V.perm.size_eq
  by_cases z:lo>=a₀.size
  ·refine XH z ?_
   have:lo=a₀.size:=∅
   subst this;exact vN ⟨rfl,S,V⟩
  refine XF z ?_;have i1:=V.ints h0;refine vL (zDA i1 V.kind ∅ ∅ λn st2 n1 n2 W Sr=>?_)
  dsimp -zeta only
  have key:∀(m:Nat)(st3:ve),1<=m->m<=a₀.size-lo->Within lo (lo+pP) st1 st3->SrK pO lo m->∃X S',IV a₀ st3 lo (X++S')/\X.length=m/\Srt X:=λm st3 m1 m2 W3 S3=>by
   obtain⟨Xs,e1,e2,e3⟩:=V.runs;have sz3:(vM st3).size=a₀.size:=W3.size.trans hsz1;have tk:(vM st3).toList.take lo=Xs.flatten:=by
    have:(vM st3).toList.take lo=(vM st1).toList.take lo:=by
     apply yt;intro t
     by_cases ht:t<lo
     ·rw[wU ht,wU ht,zd,zd]
      exact W3.out t (.inl ht)
     ·rw[ZI ∅,ZI ∅]
    rw[this,e1,<- e3,Yq]
   refine⟨((vM st3).toList.drop lo).take m,((vM st3).toList.drop lo).drop m,⟨W3.kind.trans V.kind,W3.fail.trans V.fail,W3.perm.trans V.perm,Xs,?_,?_,e3⟩,?_,?_⟩
   ·rw[yF,<- tk,yF]
   ·rw[W3.pend];exact e2
   ·rw[zf,yO,zO];omega
   ·rw[Srt,yY]
    intro i j hi hj hij;rw[zf,yO,zO]at hj;have:=S3 i j ∅ ∅;have q1:(vM st3)[Dn]?=some (vM st3)[Dn]:=getElem?_pos _ _ ∅;have q2:(vM st3)[Js]?=some (vM st3)[Js]:=getElem?_pos _ _ ∅;rw[zB0 q1,zB0 q2]at this;rw[xD,xD,xx,xx];exact this
  have sz2:=W.size
  by_cases zm:n<su a₀.size a₀.size 0
  case' pos=>
   refine XH zm ?_;refine vL fU;refine vL (zBP (W.ints i1) (W.kind.trans V.kind) ∅ ∅ Sr λst3 W3 S3=>?_);refine XF (by decide) ?_;have f1:1<=min pP m6:=∅
   have f2:min pP m6<=a₀.size-lo:=∅
   have W4:=W.trans (W3.wider (∅:lo+min pP m6<=lo+pP));generalize min pP m6=m at f1 f2 S3 ⊢;obtain⟨X,S',V3,lX,sX⟩:=key m st3 f1 f2 W4 S3
  case' neg=>
   refine XF zm ?_;obtain⟨X,S',V3,lX,sX⟩:=key n st2 n1 n2 W Sr;have f1:=n1;have f2:=n2;generalize hm:n=m at lX f1 f2 ⊢;generalize hst3:st2=st3 at V3 ⊢
  all_goals
   refine vL pV;cases hb:(vf st3).back? with
   | none=>
    dsimp -zeta only
    exact vL (ug (vN ⟨lo+m,S',rfl,V3.push lX f1 sX,∅,.inl ∅⟩))
   | some p=>
    obtain⟨s1,n1',pp⟩:=p
    dsimp only
    refine vL (uG (vj (I:=λy c st'=>c=(none,())/\IV a₀ st' lo (X++S')) (Q:=λc st'=>c=(none,())/\IV a₀ st' lo (X++S')) ?_ (λ_ _ hh=>hh) ⟨rfl,V3⟩) ?_)
    ·rintro y c st4 _ _ ⟨rfl,V4⟩
     refine vL pV
     by_cases zp:(vf st4).size>1
     ·rw[vH zp,getElem?_pos (vf st4) adI ∅]
      generalize (vf st4)[adI]=row;obtain⟨r1,r2,r3⟩:=row
      dsimp only
      split
      ·exact vN ⟨rfl,V4⟩
      ·refine vL (WX h0 V4 ∅ λst5 V5 _=>?_)
       refine XF (by decide) ?_;exact vN ⟨rfl,V5⟩
     ·rw[vJ zp]
      exact vN ⟨rfl,V4⟩
    ·rintro c st4 ⟨rfl,V4⟩
     dsimp only
     exact vL (ug (vL (ug (vN ⟨lo+m,S',rfl,V4.pow.push lX f1 sX,∅,.inl ∅⟩))))
 ·rintro c st1 ⟨lo,S,rfl,V,b1,b2⟩
  have:lo=a₀.size:=∅
  subst this;exact⟨rfl,S,V⟩
 ·rintro c st1 ⟨rfl,S,V⟩
  dsimp -zeta only
  have hsz1:(vM st1).size=a₀.size:=V.perm.size_eq;have many:∀st' S',IV a₀ st' a₀.size S'->(vf st').size<=a₀.size:=λst' S' V'=>by
   obtain⟨Xs,e1,e2,e3⟩:=V'.runs;have l1:=zAG e2;have l2:=zAd e2;rw[zO]at l1;omega
  have m1:=many st1 S V;refine vL (uG (vj
   (I:=λx c st'=>c=(none,())/\IV a₀ st' a₀.size S/\((vf st').size<=1\/(vf st').size+x<=(vf st1).size))
   (Q:=λc st'=>c=(none,())/\IV a₀ st' a₀.size S/\(vf st').size<=1) ?_ ?_ ⟨rfl,V,.inr ∅⟩) ?_)
  ·rintro x c st2 _ _ ⟨rfl,V2,b⟩
   refine vL pV
   by_cases z:(vf st2).size<=1
   ·refine XH z ?_
    exact vN ⟨rfl,V2,z⟩
   refine XF z ?_;have hx:∀c:Bool,(if c=true then (vf st2).size-2-1 else (vf st2).size-2)+1<(vf st2).size:=λc=>by cases c <;> simp <;> omega
   refine vL (WX h0 V2 (hx _) λst3 V3 hs=>?_);refine XF (by decide) ?_;exact vN ⟨rfl,V3,.inr ∅⟩
  ·rintro c st2 ⟨rfl,V2,b⟩
   exact⟨rfl,V2,∅⟩
  ·rintro c st2 ⟨rfl,V2,b⟩
   dsimp only
   refine vN (h st2 V2.perm V2.fail ?_);obtain⟨Xs,e1,e2,e3⟩:=V2.runs;have sz2:(vM st2).size=a₀.size:=V2.perm.size_eq;have hS:S=[]:=by
    have:=uB wD e1;rw[zD,zO,e3,sz2]at this;exact ZT.mp ∅
   have hl:=zAG e2;rw[zO]at hl;have st:Srt (vM st2).toList:=by
    rw[e1,hS,zx]
    match Xs,e2,hl with
    | [],_,_=>exact xU
    | [X],e2,_=>
     rw[yB,YZ,zx]
     match hp:(vf st2).toList,e2 with
     | p::r,e2=>exact e2.2.2.2.1
    | X::Y::Z,_,hl=>rw[zJ,zJ]at hl;omega
   exact λi j h1 h2=>zBg st h1 ∅
end
end So
set_option maxHeartbeats 2000000
namespace So
open PySem PyProof.Rows
section
variable{prog:vU}{w:vY}{A:vg}{E:vB->vC->Prop}{s:vC}
theorem zCE{a:vF}{xs:bu}{is:af}{k:Nat}{P:Fin->vC->Prop}(at_:s.heap.get? a=some (uA "list" xs.toArray k))(hin:uI xs is)(big:2<=xs.length)(fits:abv)(h:∀(o:dI)(js:af),uI o.toList js->js.Perm is->js.Pairwise (· <= ·)->P ng { s with heap:=sortedHeap s.heap a xs o }):vQ ap A (Builtin.«list.sort» AB) P E s:=by
 have la:=zN at_;have empty:=get?_update_seq at_ (λ_=>(#[]:Array vB));rw[list_sort_plain];refine vA (sw at_ rfl (vA (uv at_ rfl ?_)));refine vA (sN empty rfl (vA (tU (vA (uu GT)))));have still:(((s.heap.update a (Obj.mapSeq λ_=>#[])).push OG).push (uA "list" #[] 0)).get? a=some _:=zE _ (zE _ empty)
 change vQ ap A _ P E (Shared.mk (((s.heap.update a (Obj.mapSeq λ_=>#[])).push OG).push (uA "list" #[] 0)) _ _ _ _)
 have many:¬xs.toArray.size<2:=by rw[zQ];omega
 dsimp only
 rw[vJ many,vJ many];have kk:keyKind' xs.toArray=pure uH:=by
  match xs,big,hin with
  | _::_::_,_,hin=>exact keyKind_ints hin
 rw[kk];refine vA gr;have base:tJ (pairsOf xs) (SortSt.mk' uH (xs.toArray.zip xs.toArray) #[] 7 none):=SH;refine vA (v9 (zAs (Q:=λ_ t=>(vM t).Perm (pairsOf xs)/\uT t=none/\um (vM t) (pairsOf xs).size) hin.intKeys base λt q1 q2 q3=>⟨q1,q2,q3⟩) (λr s3 hr=>?_) λ_ _ z=>z);obtain⟨⟨⟩,t⟩:=r;obtain⟨rfl,q1,q2,q3⟩:=hr
 dsimp only
 obtain⟨js,c1,c2,c3⟩:=sorted_out hin q1 q3;have lt:((vM t).map (·.2)).size<=sizeLine:=by
  rw[Yp,q1.size_eq,pairsOf_size,vh];omega
 refine vA (sN still rfl (vA (uv still rfl ?_ (hsz2:=wZ lt))));rw[q2];simp only[bne_self_eq_false,yG,if_false];exact vG (h _ js c1 c2 c3)
theorem sorted_any{l:vF}{xs:bu}{is:af}{Q:aQ}(isl:s.heap.IsList l xs.toArray)(hin:uI xs is)(fits:abv)(h:∀(o:dI)(js:af),uI o.toList js->js.Perm is->js.Pairwise (· <= ·)->Q (.ref jo) { s with heap:=sortedAll s.heap xs o }):vQ ap A (call gk [cM]) Q E s:=by
 by_cases few:xs.length<64
 ·exact sorted_ints isl hin few h
 refine Calls.call_function_entry sH tq tu (sq cM) ?_;unfold Builtin.«sorted»;refine vA (m:=sW "sorted" 1 1 _) (vG (vA (collect_list isl ?_ (by rw[vh];omega))));have many:((s.heap.push (uA "list" #[] 0)).update s.heap.objs.size (Obj.mapSeq (·++xs.toArray))).objs.size=s.heap.objs.size+1:=(xi _ _ _).trans (size_push' _ _);refine vA (uu ?_);generalize hh:(s.heap.push (uA "list" #[] 0)).update s.heap.objs.size (Obj.mapSeq (·++xs.toArray))=h2 at many ⊢;have here:(h2.push Cr).get? jo=some Cr:=by
  have:=zU h2 (o:=uA "list" xs.toArray 0) rfl
  rwa [many]at this
 change vQ _ _ _ _ _ (Shared.mk (h2.push Cr) _ _ _ _)
 rw[many];refine vA (vp (vt slot_list_sort ⟨_,here,rfl⟩ entry_list_sort ?_ (sI _)));refine zCE here hin ∅ fits λo js c1 c2 c3=>?_;refine⟨_,rfl,vG dv⟩;subst hh;exact h o js c1 c2 c3
end
end So
namespace Hk
open PySem L2
def rSortB:List V->Hp->VK->Prop:=λxs H Q=>∃p ns,xs=TC/\H p=some HQ/\ns.length<=1000000/\∀l,H l=none->Q cM GU
noncomputable def zCr:D->Option R
 | .lst ds=>(intsOf ds).bind λns=>if ns.length<=1000000 then some nZ else none
 | _=>none
noncomputable def zBK(f:FD):FE:=λω=>(f ω).bind zCr
section
variable{X:Cx}
theorem qc4:WM X gk rSortB:=by
 intro pins s σ H xs us Q I r h;obtain⟨p,ns,rfl,hp,hz,q⟩:=h;obtain⟨u,rfl,rx⟩:=vals1 r;cases rx;obtain⟨its,n,rv,e,_⟩:=I.lst hp;have hlen:its.length=ns.length:=by rw[<- rv.length,zB]
 refine So.sorted_any oj (q2O rv) ∅ λout ns' a1 a2 a3=>?_;obtain⟨m,hm⟩:=PyProof.Rows.sortedAll_at s.heap its out;have en:ns'=XZ ns:=q0H a3 q0E IJ;subst en;have hsl:(XZ ns).length<=sizeLine:=by rw[q59,vh];omega
 have I2:=I.laid (a:=s.heap.objs.size+1) (o:=.lst ip) (t':=s.toks) Ff OF
  (show Xg X.prog X.w _ Fn _ Uf from ⟨by rw[zB];exact hsl,out.toList,m,q1B a1,by rw[xy];exact hm⟩)
 exact Dc
theorem q8I{a:vW}{f:FD}{p q:Pos}(hg:Dt)(hm:kZ)(ha:dS)(he:mH:=by rfl)(hpl:(vo q ck).any (·.1)=false:=by rfl):XE X U8 (zBK f):=by
 obtain⟨t,h1,h2⟩:=ha;refine⟨_,q2a qc4 hg hm q2v (qj h1 qq he) (by decide) (by decide) he hpl,b8⟩;obtain⟨d,z,e⟩:=bnd e;refine h2 G0 H0 G ω σ H d _ o z λv G1 H1 x1 y1=>?_;cases d with
 | lst ds=>
  obtain⟨ns,e1,e2⟩:=bnd (show (intsOf ds).bind _=some r from e);have hds:=q1w e1;subst hds
  by_cases hz:ns.length<=1000000
  ·rw[vH hz]at e2
   cases e2;obtain⟨p,vs,rfl,g1,g2⟩:=y1.lst x1.gh;have hv:=g2.of_ints;subst hv;refine Lz;have x2:=Ext.hide x1.gh hl adD;exact k _ G1 _ eO AW
  ·rw[vJ hz]at e2;cases e2
 | _=>cases e
noncomputable def zCn(o:dU):Option R:=o.bind zCr
theorem q8T{fd:FD}{ω:WSt}:zBK fd ω=zCn oQ:=rfl
theorem q8F{ns:af}(h:ns.length<=1000000):zCn (some Sk)=some nZ:=by
 show (intsOf gG).bind _=_;rw[q0J];exact vH h
end
end Hk
set_option maxHeartbeats 4000000
namespace Kx
open PySem L2 Hk
noncomputable def top(i:Nat):vm:=PySem.Challenge.pw_hookrail_k42_the_told_reason.main.body.getD i (.Pass QM)
section
variable{P:vU}{w:vY}{K:zC}{mg:Str->Option vB}{base:vk}{f:vF}{fd:vO}
noncomputable def q74:FS:=pE
noncomputable def qU:List D->Option O:=mir 1 q74
noncomputable abbrev q4A:vm:=top 6
theorem qcm:FnScope oh oh (Y5 q4A):=ai
variable(z11:mg "isinstance" = none)
variable(z12:mg "bool" = none)
variable(z13:mg "int" = none)
variable(z14:IsT K .int)
variable(z15:IsT K .bl)
include z11 z12 z13 z14 z15 in
theorem qam(F:Fun K "is_whole" "is_whole" q4A f fd):FnOk P w K mg base CX0 1 f fd oh (spD K 1 qU):=by
 have h:=fnD (P:=P) (w:=w) (mg:=mg) (base:=base) (k:=0) (body:=q74) F qcm (λcdv A outer s H E hr=>
   io)
 exact h
noncomputable def q6c:FS:=(Xp (eOf (zBY (dOf (zBE .tup aH)) (zBY (dOf (Y9 gR nM ij)) (zBY (dOf aab) (dOf (Y8 qU (Y0 fB XC))))))))
noncomputable def q3e:List D->Option O:=mir 1 q6c
noncomputable abbrev q6i:vm:=top 7
theorem qfj:FnScope oh oh (Y5 q6i):=ai
variable{fc16:vF}{dc16:vO}(c16:Cal P w K mg base 1 fc16 dc16 "is_whole" ["thing"] 1 qU)
variable(z17:mg "len" = none)
variable(z18:mg "tuple" = none)
variable(z19:IsT K .tup)
include z11 c16 z17 z18 z19 in
theorem qdD(F:Fun K "is_box" "is_box" q6i f fd):FnOk P w K mg base CX0 2 f fd oh (spD K 1 q3e):=by
 have h:=fnD (P:=P) (w:=w) (mg:=mg) (base:=base) (k:=1) (body:=q6c) F qfj (λcdv A outer s H E hr=>
   (qc (qh (XD.toE (q1m (XE.toD JV) (q1m (XE.toD (zBU hr.units gX ar)) (q1m (XE.toD DK) (q36 (XE.toD DK)))))))))
 exact h
noncomputable def q5a:FD:=(dOf (Y8 q3e gz))
noncomputable def q3J:FS:=(Xd (sIf (zA4 (WD (W2 (vOf (Y8 qU gz)))) (zA4 (WD (W2 (vOf (Y8 qU BH)))) (WD (W2 (vOf (zBE .lst cH)))))) kh Wg)
  (Xp (WF zAm (Y0 (vOf (Xi 1 [] (X8 fj) iF Xj q5a)) XC))))
noncomputable def q0R:List D->Option O:=mir 3 q3J
noncomputable abbrev q3X:vm:=top 8
theorem qae:FnScope ao ao (Y5 q3X):=ai
variable{fc20:vF}{dc20:vO}(c20:Cal P w K mg base 2 fc20 dc20 "is_box" ["thing"] 1 q3e)
variable(z21:mg "list" = none)
variable(z22:mg "all" = none)
variable(z23:IsT K .lst)
include z11 c16 c20 z21 z22 z23 in
theorem q9B(F:Fun K "is_errand" "is_errand" q3X f fd):FnOk P w K mg base CX0 3 f fd ao (spD K 3 q0R):=by
 have h:=fnD (P:=P) (w:=w) (mg:=mg) (base:=base) (k:=2) (body:=q3J) F qae (λcdv A outer s H E hr=>
   (qb (qR (XW.toT (q1U (q01 (qN (XE.toV adT))) (q1U (q01 (qN (XE.toV (xc c16 hr fK)))) (q2s (q01 (qN (XE.toV (q0K A2 z23 rfl z11 rfl z21 q1A)))))))) iL qC)
   (qc (qh (qA DC q34 rfl z22 q3n (qm (XE.toV (qG rfl (blk ["box"] [] [] rfl ⋯ ⋯ rfl trivial) (qu pU) jA (λ_ _ _ _=>⟨(qg (i:=0) (show (IQ++cQ:List Str).Nodup from by decide +kernel) rfl aC),qB,(XE.toD (xc c20 hr b9))⟩))) qt))))))
 exact h
noncomputable def q2h:FS:=(sIf (WD (W2 (vOf (Y8 q0R ah)))) sNo Wg)
noncomputable def q06:List D->Option O:=mir 3 q2h
noncomputable abbrev q2e:vm:=top 9
theorem q7w:FnScope ao ao (Y5 q2e):=ai
variable{fc24:vF}{dc24:vO}(c24:Cal P w K mg base 3 fc24 dc24 "is_errand" ["home", "last", "boxes"] 3 q0R)
include c24 in
theorem q6A(F:Fun K "check_errand" "check_errand" q2e f fd):FnOk P w K mg base CX0 4 f fd ao (spD K 3 q06):=by
 have h:=fnD (P:=P) (w:=w) (mg:=mg) (base:=base) (k:=3) (body:=q2h) F q7w (λcdv A outer s H E hr=>
   (qc (qR (q01 (qN (XE.toV (xc c24 hr ak)))) S9 qC)))
 exact h
noncomputable def q5Y:FS:=(zDC 3 jU)
noncomputable def q7o:FS:=(Xd aaJ
  (Xd (Xt 3 (zAg kg))
  (Xd (zAi (X8 fj) (gN 4) q5Y)
  (Xp (X9 bF)))))
noncomputable def q0h:List D->Option O:=mir 5 q7o
noncomputable abbrev q7B:vm:=top 10
theorem q7H:FnScope ["home", "last", "boxes", "places", "box"] ao (Y5 q7B):=ai
variable{fc25:vF}{dc25:vO}(c25:Cal P w K mg base 4 fc25 dc25 "check_errand" ["home", "last", "boxes"] 3 q06)
variable(z26:mg "sorted" = none)
variable(z27:mg "set" = none)
include c25 z26 z27 in
theorem qfg(F:Fun K "stops" "stops" q7B f fd):FnOk P w K mg base CX0 5 f fd ao (spD K 3 q0h):=by
 have h:=fnD (P:=P) (w:=w) (mg:=mg) (base:=base) (k:=4) (body:=q7o) F q7H (λcdv A outer s H E hr=>
   (qb Tk
   (qb (qo (i:=3) q7H.nd rfl (Or.inl rfl) (Xy fF))
   (qb (q0d PassesOwn.never rfl (qu pU) (qg (i:=4) q7H.nd rfl aC) (qc (q9R lU Es)))
   (qc (qh (q4d rfl z26 rfl z27 jy)))))))
 exact h
noncomputable def q9D:FS:=(Xd (Xt 3 (eOf pD))
  (Xp (WF Wl (Y0 bF (Y0 (vOf (fSl bF (pAt be) pNo)) XC)))))
noncomputable def q0O:List D->Option O:=mir 4 q9D
noncomputable abbrev q96:vm:=top 11
theorem qdW:FnScope ["home", "last", "boxes", "places"] ao (Y5 q96):=ai
variable{fc28:vF}{dc28:vO}(c28:Cal P w K mg base 5 fc28 dc28 "stops" ["home", "last", "boxes"] 3 q0h)
variable(z29:mg "zip" = none)
include z21 c28 z29 in
theorem qhJ(F:Fun K "gaps" "gaps" q96 f fd):FnOk P w K mg base CX0 6 f fd ao (spD K 3 q0O):=by
 have h:=fnD (P:=P) (w:=w) (mg:=mg) (base:=base) (k:=5) (body:=q9D) F qdW (λcdv A outer s H E hr=>
   (qb (qo (i:=3) qdW.nd rfl (Or.inl rfl) TM)
   (qc (qh (qcF rfl z21 rfl z29 (qm jy (qm (XE.toV (Wk jy (Wn ar) zAq)) qt)))))))
 exact h
noncomputable def q3a:FD:=(W1 (Y0 fD (Y0 fB (Y0 (dOf Bs) XC))))
noncomputable def q3O:FS:=(Xp (Xi 1 [] adb iF Xj q3a))
noncomputable def qT:List D->Option O:=mir 3 q3O
noncomputable abbrev q3R:vm:=top 12
theorem qao:FnScope ao ao (Y5 q3R):=ai
variable{fc30:vF}{dc30:vO}(c30:Cal P w K mg base 6 fc30 dc30 "gaps" ["home", "last", "boxes"] 3 q0O)
include c30 in
theorem q9P(F:Fun K "gap_edges" "gap_edges" q3R f fd):FnOk P w K mg base CX0 7 f fd ao (spD K 3 qT):=by
 have h:=fnD (P:=P) (w:=w) (mg:=mg) (base:=base) (k:=6) (body:=q3O) F qao (λcdv A outer s H E hr=>
   (qc (qh (qG rfl (blk LS [] [] rfl ⋯ ⋯ rfl trivial) acH jA (λ_ _ _ _=>⟨(qg (i:=0) (show (mi++cQ:List Str).Nodup from by decide +kernel) rfl aC),qB,(Xl (Yz bq (Yz bq (Yz (XE.toD (q0M lH lH)) Y2))))⟩)))))
 exact h
noncomputable def q2Z:FS:=(Xp (eOf (zBY (dOf (Y9 oLe aH (vOf (Y9 oIx cH aW)))) (dOf (Y9 oLe (vOf (Y9 oIx cH be)) bZ)))))
noncomputable def q0A:List D->Option O:=mir 3 q2Z
noncomputable abbrev q3y:vm:=top 14
theorem q9u:FnScope Dq Dq (Y5 q3y):=ai
theorem q8v(F:Fun K "leads_over" "leads_over" q3y f fd):FnOk P w K mg base CX0 1 f fd Dq (spD K 3 q0A):=by
 have h:=fnD (P:=P) (w:=w) (mg:=mg) (base:=base) (k:=0) (body:=q2Z) F q9u (λcdv A outer s H E hr=>
   (qc (qh (XD.toE (q1m (XE.toD (qh6 eG UY)) (q36 (XE.toD (qh6 UY kL))))))))
 exact h
noncomputable def q4G:FT:=(W2 (vOf (Y8 q0A (Y0 fD (Y0 fB BH)))))
noncomputable def q4C:FD:=bn
noncomputable def q4f:FT:=(W2 (vOf (Y8 q0A (Y0 fB (Y0 fD BH)))))
noncomputable def q4B:FD:=bn
noncomputable def q5q:FS:=(Xd (Xt 2 (Xi 1 [1] CD iF q4G q4C))
  (X5 2 (Xd (Xt 3 (Xi 1 [1] CD iF q4f q4B))
  (X5 3 (Xp (eOf (W1 (Y0 (dOf AR) (Y0 (dOf (WF zAN Ob)) XC)))))))))
noncomputable def q0C:List D->Option O:=mir 4 q5q
noncomputable abbrev q58:vm:=top 15
theorem q4W:FnScope ["boxes", "gap", "rights", "lefts"] aes (Y5 q58):=ai
variable{fc31:vF}{dc31:vO}(c31:Cal P w K mg base 1 fc31 dc31 "leads_over" ["start", "goal", "gap"] 3 q0A)
include z17 c31 in
theorem qcB(F:Fun K "crossed" "crossed" q58 f fd):FnOk P w K mg base CX0 2 f fd aes (spD K 2 q0C):=by
 have h:=fnD (P:=P) (w:=w) (mg:=mg) (base:=base) (k:=1) (body:=q5q) F q4W (λcdv A outer s H E hr=>
   (qb (q1D (i:=2) rfl q4W.nd rfl rfl (blk ["box"] LS [1] rfl ⋯ ⋯ rfl ⟨⟨rfl,(by first|exact Or.inl rfl|exact Or.inr rfl),rfl⟩,trivial⟩) GY jA (λ_ _ _ _=>⟨(qg (i:=0) (show (IQ++mi:List Str).Nodup from by decide +kernel) rfl aC),Bp,iE⟩))
   (qW 2 (qb (q1D (i:=3) rfl q4W.nd rfl rfl (blk ["box"] LS [1] rfl ⋯ ⋯ rfl ⟨⟨rfl,(by first|exact Or.inl rfl|exact Or.inr rfl),rfl⟩,trivial⟩) GY jA (λ_ _ _ _=>⟨(qg (i:=0) (show (IQ++mi:List Str).Nodup from by decide +kernel) rfl aC),Bp,iE⟩))
   (qW 3 (qc (qh (XD.toE (Xl (Yz (XE.toD je) (Yz (XE.toD IE) Y2)))))))))))
 exact h
noncomputable def q9a:FS:=(Xd (Xt 4 (eOf (dOf (Y8 q0C (Y0 (dOf RI) N9)))))
  (Xd (Xt 5 (eOf (dOf (Y8 q0C (Y0 fj N9)))))
  (Xp (Y9 WC (vOf (Y9 zBC (vOf (Y9 zBC (vOf N7) (vOf N6))) (vOf FP))) (vOf Bt)))))
noncomputable def q5k:List D->Option O:=mir 6 q9a
noncomputable abbrev q9J:vm:=top 16
theorem q9s:FnScope ["home", "last", "boxes", "gap", "own", "carried"] Lj (Y5 q9J):=ai
variable{fc32:vF}{dc32:vO}(c32:Cal P w K mg base 2 fc32 dc32 "crossed" ["boxes", "gap"] 2 q0C)
include c32 in
theorem qid(F:Fun K "lack" "lack" q9J f fd):FnOk P w K mg base CX0 3 f fd Lj (spD K 4 q5k):=by
 have h:=fnD (P:=P) (w:=w) (mg:=mg) (base:=base) (k:=2) (body:=q9a) F q9s (λcdv A outer s H E hr=>
   (qb (qo (i:=4) q9s.nd rfl (Or.inl rfl) (XD.toE (XE.toD (xc c32 hr (Yz (XE.toD TH) aaa)))))
   (qb (qo (i:=5) q9s.nd rfl (Or.inl rfl) (XD.toE (XE.toD (xc c32 hr cp))))
   (qc (qh (qM (XE.toV (q0M (XE.toV (q0M UX UX)) TJ)) TJ))))))
 exact h
noncomputable def q9m:FD:=(dOf (Y8 q5k Oa))
noncomputable def q7s:FS:=(Xp (Xi 1 LR adb iF Xj q9m))
noncomputable def q2k:List D->Option O:=mir 3 q7s
noncomputable abbrev q7f:vm:=top 17
theorem qie:FnScope ao ao (Y5 q7f):=ai
variable{fc33:vF}{dc33:vO}(c33:Cal P w K mg base 3 fc33 dc33 "lack" ["home", "last", "boxes", "gap"] 4 q5k)
include c30 c33 in
theorem qfb(F:Fun K "lacks" "lacks" q7f f fd):FnOk P w K mg base CX0 7 f fd ao (spD K 3 q2k):=by
 have h:=fnD (P:=P) (w:=w) (mg:=mg) (base:=base) (k:=6) (body:=q7s) F qie (λcdv A outer s H E hr=>
   (qc (qh (qG rfl (blk LS ao LR rfl ⋯ ⋯ rfl ⟨⟨rfl,(by first|exact Or.inl rfl|exact Or.inr rfl),rfl⟩,⟨⟨rfl,(by first|exact Or.inl rfl|exact Or.inr rfl),rfl⟩,⟨⟨rfl,(by first|exact Or.inl rfl|exact Or.inr rfl),rfl⟩,trivial⟩⟩⟩) acH jA (λ_ _ _ _=>⟨(qg (i:=0) (show (mi++(ao:List Str):List Str).Nodup from by decide +kernel) rfl aC),qB,(XE.toD (xc c33 hr N2))⟩)))))
 exact h
noncomputable def q4T:FS:=sNb
noncomputable def q1I:List D->Option O:=mir 5 q4T
noncomputable abbrev q1X:vm:=top 19
theorem q20:FnScope ["things", "ties", "beside", "thing", "tie"] fP (Y5 q1X):=ai
theorem q8j(F:Gg):FnOk P w K mg base CX0 1 f fd fP (spD K 2 q1I):=by
 have h:=fnD (P:=P) (w:=w) (mg:=mg) (base:=base) (k:=0) (body:=q4T) F q20 (λcdv A outer s H E hr=>
   (qiY hr.units PassesOwn.never rfl q20.nd rfl rfl rfl (by first|exact Or.inl rfl|exact Or.inr rfl) (by first|exact Or.inl rfl|exact Or.inr rfl) (by first|exact Or.inl rfl|exact Or.inr rfl) (by first|exact .inl rfl|exact .inr rfl) (by first|exact .inl rfl|exact .inr rfl) (by first|exact .inl rfl|exact .inr rfl) EB EA o7 o7 o7 lU o7 da da da da aaC aaB))
 exact h
theorem q7z(F:Gg):FnOk P w K mg base CX0 1 f fd fP (zCw K):=by
 refine F.ok q20 (λvs H Q E h=>qfu h) bK;exact qig rfl h (qin hr.units PassesOwn.never rfl q20.nd rfl rfl rfl (by first|exact Or.inl rfl|exact Or.inr rfl) (by first|exact Or.inl rfl|exact Or.inr rfl) (by first|exact Or.inl rfl|exact Or.inr rfl) (by first|exact .inl rfl|exact .inr rfl) (by first|exact .inl rfl|exact .inr rfl) (by first|exact .inl rfl|exact .inr rfl) EB EA o7 o7 o7 lU o7 da da da da aaC aaB)
noncomputable def q3Y:FS:=(sIf (zB7 true 2 kJ) (Xd (zBR 2 kJ acZ)
  (zCW 3 kJ)) Wg)
noncomputable def q2l:FT:=(W2 bF)
noncomputable def q3V:FS:=(Xd (zCH 4 (zCc 3))
  (zAi (X8 (dOf (zAO 1 jU))) R3 q3Y))
noncomputable def q4m:FS:=(Xd (zBy 2 bn acZ)
  (Xd (Xt 3 (zAg gz))
  (Xd (sWh 1000000 q2l q3V)
  (Xp (zBr 2)))))
noncomputable def q1e:List D->Option O:=mir 6 q4m
noncomputable abbrev q4u:vm:=top 20
theorem q1P:FnScope ["thing", "beside", "found", "waiting", "here", "other"] IP (Y5 q4u):=ai
include z26 in
theorem qad(F:Fun K "group_of" "group_of" q4u f fd):FnOk P w K mg base CX0 1 f fd IP (spD K 2 q1e):=by
 have h:=fnD (P:=P) (w:=w) (mg:=mg) (base:=base) (k:=0) (body:=q4m) F q1P (λcdv A outer s H E hr=>
   (qb (qfy (i:=2) q1P.nd rfl (Or.inl rfl) iE Wf)
   (qb (qo (i:=3) q1P.nd rfl (Or.inl rfl) (Xy b9))
   (qb (qf7 PassesOwn.never (qN jy) (qb (qhA (i:=4) q1P.nd rfl (Or.inl rfl) (qh8 lU))
   (qc (q0d PassesOwn.never rfl (qu (XE.toD (q2f hr.units EA Es))) (qg (i:=5) q1P.nd rfl aC) (qc (qR (q5j hr.units Er o7) (qb (q47 hr.units o7 Er Wf)
   (qc (q2z lU Er))) qC))))))
   (qc (qh (qeX rfl rfl z26 o7)))))))
 exact h
noncomputable def q5r:FS:=(zBR 3 Rj acZ)
noncomputable def q2o:FS:=(sIf (zB7 true 3 kJ) (Xd (Xt 6 (eOf (dOf (Y8 q1e (Y0 kJ aB)))))
  (Xd (zCW 4 Ea)
  (zAi (X8 Ea) (gN 7) q5r))) Wg)
noncomputable def q68:FS:=(Xd (Xt 2 (eOf (dOf (Y8 q1I kg))))
  (Xd (zBM 3)
  (Xd ac7
  (Xd GP
  (zAo 4)))))
noncomputable def q1r:List D->Option O:=mir 8 q68
noncomputable abbrev q4a:vm:=top 21
theorem qO:FnScope ["things", "ties", "beside", "grouped", "told", "thing", "group", "member"] fP (Y5 q4a):=ai
variable{fc34:vF}{dc34:vO}(c34:Cal P w K mg base 1 fc34 dc34 "neighbours" ["things", "ties"] 2 q1I)
variable{fc35:vF}{dc35:vO}(c35:Cal P w K mg base 1 fc35 dc35 "group_of" ["thing", "beside"] 2 q1e)
include z26 c34 c35 in
theorem qdL(F:Lo):FnOk P w K mg base CX0 2 f fd fP (spD K 2 q1r):=by
 have h:=fnD (P:=P) (w:=w) (mg:=mg) (base:=base) (k:=1) (body:=q68) F qO (λcdv A outer s H E hr=>
   (qb (qo (i:=2) qO.nd rfl (Or.inl rfl) (XD.toE (XE.toD (xc c34 hr fF))))
   (qb OI
   (qb DS
   (qb (q0d PassesOwn.never rfl (qu ON) Pg (qc (qR Tl (qb kI
   (qb (q2z LJ RO)
   jL)) qC)))
   (qc (q5C LJ)))))))
 exact h
noncomputable def qF:FS:=(Xd (zBM 3) (Xd ac7 (Xd GP Wg)))
theorem qcr{fc34:vF}{dc34:vO}{fc35:vF}{dc35:vO}(F:Lo)(c2_neighbours:zB9 P w K mg base 1 fc34 dc34 "neighbours" fP (zCw K))(c35:Cal P w K mg base 1 fc35 dc35 "group_of" IP 2 q1e)(z26:abM):FnOk P w K mg base CX0 2 f fd fP (zDE K qF):=by
 refine F.ok qO (λvs H Q E h=>qfY h) bK;exact qho rfl h (qL (i:=2) qO.nd rfl (by first|exact Or.inl rfl|exact Or.inr rfl) (q27 c2_neighbours.1 (hr.mono (by decide)) rfl c2_neighbours.2.1 c2_neighbours.2.2.1 c2_neighbours.2.2.2 .nil zA1 (qj EB ad6 rfl)) rfl (by first|exact .inl rfl|exact .inr rfl)) (q5U OI (q5U DS (q5U (q0d PassesOwn.never rfl (qu ON) Pg (qc (qR Tl (qb kI
   (qb (q2z LJ RO)
   jL)) qC))) (qhE LJ))))
noncomputable def q4e:FT:=(tOf (Y9 lh bZ aW))
noncomputable def q6x:FD:=bn
noncomputable def q7l:FS:=(Xd (Xt 3 (Xi 2 [] abN Ho q4e q6x))
  (X5 3 (Xp (Y9 WC (vOf (Y9 WC (vOf (WF zB8 (Y0 cH XC))) (vOf RI))) bF))))
noncomputable def q0y:List D->Option O:=mir 4 q7l
noncomputable abbrev q7D:vm:=top 22
theorem qba:FnScope ["home", "last", "boxes", "lacking"] ao (Y5 q7D):=ai
variable{fc36:vF}{dc36:vO}(c36:Cal P w K mg base 7 fc36 dc36 "lacks" ["home", "last", "boxes"] 3 q2k)
include z21 z29 c30 c36 in
theorem qfL(F:Fun K "knots" "knots" q7D f fd):FnOk P w K mg base CX0 8 f fd ao (spD K 3 q0y):=by
 have h:=fnD (P:=P) (w:=w) (mg:=mg) (base:=base) (k:=7) (body:=q7l) F qba (λcdv A outer s H E hr=>
   (qb (q1D (i:=3) rfl qba.nd rfl rfl (blk ["gap", "lack"] [] [] rfl ⋯ ⋯ rfl trivial) (q6I rfl z29 (Yz jE pX)) kT (λ_ _ _ _=>⟨(q2r rfl (qE (qg (i:=0) (show (N1++cQ:List Str).Nodup from by decide +kernel) rfl aC) (qE (qg (i:=1) (show (N1++cQ:List Str).Nodup from by decide +kernel) rfl aC) q1C))),(q2Y (Ww hr.units kL ar)),iE⟩))
   (qW 3 (qc (qh (qM (XE.toV (qM (XE.toV (qgD q5m qb0 rfl z21 q1A (qm A2 qt))) (XE.toV TH))) jy))))))
 exact h
noncomputable def q9n:FS:=(Xp aex)
noncomputable def q0c:List D->Option O:=mir 1 q9n
noncomputable abbrev q9k:vm:=top 24
theorem qiS:FnScope ma ma (Y5 q9k):=ai
theorem qhp(F:Fun K "cost" "cost" q9k f fd):FnOk P w K mg base CX0 1 f fd ma (spD K 1 q0c):=by
 have h:=fnD (P:=P) (w:=w) (mg:=mg) (base:=base) (k:=0) (body:=q9n) F qiS (λcdv A outer s H E hr=>
   (qc (qh aac)))
 exact h
noncomputable def q1s:FS:=(zBR 1 jU fj)
noncomputable def q1v:FS:=(zAi Rp (gN 4) q1s)
noncomputable def q1V:FS:=(Xd (zBM 1)
  (Xd (zAi (iEn gz) (gT 2 Bu) q1v)
  (X5 1 (Xp cf))))
noncomputable def qQ:List D->Option O:=mir 5 q1V
noncomputable abbrev q1M:vm:=top 25
theorem q0m:FnScope ["parts", "numbers", "number", "part", "thing"] Mz (Y5 q1M):=ai
variable(z37:mg "enumerate" = none)
include z37 in
theorem q66(F:Fun K "group_numbers" "group_numbers" q1M f fd):FnOk P w K mg base CX0 1 f fd Mz (spD K 1 qQ):=by
 have h:=fnD (P:=P) (w:=w) (mg:=mg) (base:=base) (k:=0) (body:=q1V) F q0m (λcdv A outer s H E hr=>
   (qb (q5E (i:=1) q0m.nd rfl aC)
   (qb (q0d PassesOwn.never rfl (qhL rfl z37 b9) (q2r rfl (qE (qg (i:=2) q0m.nd rfl aC) (qE (qg (i:=3) q0m.nd rfl aC) q1C))) (qc (q0d PassesOwn.never rfl (qu A3) (qg (i:=4) q0m.nd rfl aC) (qc (q47 hr.units EA Es pU)))))
   (qW 1 (qc (qh (vE 1)))))))
 exact h
noncomputable def q1c:FS:=(zBR 3 jU (dOf (fIte (tOf (Y9 gR (vOf (zAO 0 jU)) cH)) cf (zAO 0 jU))))
noncomputable def q1j:FS:=(Xd (zBM 3)
  (Xd (zAi (iDk 0) (gN 4) q1c)
  (X5 3 (Xp (Y1 3)))))
noncomputable def q00:List D->Option O:=mir 5 q1j
noncomputable abbrev q1h:vm:=top 26
theorem q1g:FnScope ["numbers", "one", "other", "joined", "thing"] OM (Y5 q1h):=ai
theorem q4R(F:Fun K "with_two_joined" "with_two_joined" q1h f fd):FnOk P w K mg base CX0 1 f fd OM (spD K 3 q00):=by
 have h:=fnD (P:=P) (w:=w) (mg:=mg) (base:=base) (k:=0) (body:=q1j) F q1g (λcdv A outer s H E hr=>
   (qb (q5E (i:=3) q1g.nd rfl aC)
   (qb (q0d PassesOwn.never rfl (qhv EB) (qg (i:=4) q1g.nd rfl aC) (qc (q47 hr.units lU Es (XE.toD (qdh (zAr hr.units (XE.toV Tm) A2) (vE 1) Tm)))))
   (qW 3 (qc (qh (vE 3)))))))
 exact h
noncomputable def q5i:FS:=(Xd (Xt 6 (eOf (dOf (zAO 3 FL))))
  (Xd (Xt 7 (eOf (dOf (zAO 3 (dOf Bt)))))
  (sIf (tOf (Y9 lh DL QR)) (Xd (zCW 4 kJ)
  (Xt 3 (eOf (dOf (Y8 q00 (Y0 ff (Y0 Ea Ap))))))) Wg)))
noncomputable def q5V:FS:=(Xd (Xt 3 (eOf (dOf (Y8 qQ (Y0 (dOf (Y8 q1r kg)) XC)))))
  (Xd ac7
  (Xd (zAi (X8 (dOf (zBi q0c cH))) R3 q5i)
  (zAo 4))))
noncomputable def qS:List D->Option O:=mir 8 q5V
noncomputable abbrev q69:vm:=top 27
theorem q1u:FnScope ["things", "knots", "edges", "numbers", "taken", "edge", "one", "other"] bv (Y5 q69):=ai
variable{fc38:vF}{dc38:vO}(c38:Cal P w K mg base 1 fc38 dc38 "group_numbers" ["parts"] 1 qQ)
variable{fc39:vF}{dc39:vO}(c39:Cal P w K mg base 2 fc39 dc39 "groups" ["things", "ties"] 2 q1r)
variable{fc40:vF}{dc40:vO}(c40:Cal P w K mg base 1 fc40 dc40 "cost" ["edge"] 1 q0c)
variable{fc41:vF}{dc41:vO}(c41:Cal P w K mg base 1 fc41 dc41 "with_two_joined" ["numbers", "one", "other"] 3 q00)
include z26 c38 c39 c40 c41 in
theorem qdb(F:Fun K "forest" "forest" q69 f fd):FnOk P w K mg base CX0 4 f fd bv (spD K 3 qS):=by
 have h:=fnD (P:=P) (w:=w) (mg:=mg) (base:=base) (k:=3) (body:=q5V) F q1u (λcdv A outer s H E hr=>
   (qb (qo (i:=3) q1u.nd rfl (Or.inl rfl) (XD.toE (XE.toD (xc c38 hr (Yz (XE.toD (xc c39 hr fF)) Y2)))))
   (qb (qo (i:=4) q1u.nd rfl (Or.inl rfl) Oc)
   (qb (q0d PassesOwn.never rfl (qu (XE.toD (qfS c40 hr z26 A2))) (qg (i:=5) q1u.nd rfl aC) (qb (qo (i:=6) q1u.nd rfl (Or.inl rfl) FR)
   (qb (qo (i:=7) q1u.nd rfl (Or.inl rfl) FR)
   (qc (qR (Ww hr.units Vz (vV 7)) (qb (q2z LJ Er)
   (qc (qo (i:=3) q1u.nd rfl (Or.inl rfl) (XD.toE (XE.toD (xc c41 hr (Yz A3 (Yz RO N5)))))))) qC)))))
   (qc (q5C LJ))))))
 exact h
noncomputable def qZ:FT:=(tOf (Y9 oLt (vOf TD) bZ))
noncomputable def qY:FD:=(W1 (Y0 fD (Y0 fB XC)))
noncomputable def q2c:FS:=(Xd IX
  (X5 4 (Xp (Y8 q1r (Y0 bn (Y0 UT XC))))))
noncomputable def q0x:List D->Option O:=mir 5 q2c
noncomputable abbrev q0w:vm:=top 28
theorem q1d:FnScope ["things", "knots", "edges", "bound", "cheaper"] fW (Y5 q0w):=ai
include c39 c40 in
theorem q6V(F:Ek):FnOk P w K mg base CX0 3 f fd fW (spD K 4 q0x):=by
 have h:=fnD (P:=P) (w:=w) (mg:=mg) (base:=base) (k:=2) (body:=q2c) F q1d (λcdv A outer s H E hr=>
   (qb (q1D (i:=4) rfl q1d.nd rfl rfl (blk ma MA [3] rfl ⋯ ⋯ rfl ⟨⟨rfl,(by first|exact Or.inl rfl|exact Or.inr rfl),rfl⟩,trivial⟩) (qu pU) jA (λ_ _ _ _=>⟨(qg (i:=0) (show (Cv++Ao:List Str).Nodup from by decide +kernel) rfl aC),NI,Qo⟩))
   (qW 4 (qc (qh (xc c39 hr (Yz iE (Yz UZ Y2))))))))
 exact h
noncomputable def q1k:FS:=IX
noncomputable def q1l:FD:=UT
theorem q63{fc40:vF}{dc40:vO}{fc39:vF}{dc39:vO}(F:Ek)(c40:DD)(c2_groups:zB9 P w K mg base 2 fc39 dc39 "groups" fP (zDE K qF)):FnOk P w K mg base CX0 3 f fd fW UI:=by
 refine F.ok q1d (λvs H Q E h=>qg7 h) bK;refine qj0 (E2:=E0) (eA:=zAh 1 (valOf ((Xa q0w).getD 1 stD))) rfl h ?_ ?_ ?_
 ·exact(q1D (i:=4) rfl q1d.nd rfl rfl (blk ma MA [3] rfl ⋯ ⋯ rfl ⟨⟨rfl,(by first|exact Or.inl rfl|exact Or.inr rfl),rfl⟩,trivial⟩) (qu pU) jA (λ_ _ _ _=>⟨(qg (i:=0) (show (Cv++Ao:List Str).Nodup from by decide +kernel) rfl aC),NI,Qo⟩))
 ·exact UZ
 ·exact λtA a=>q0e (q27 c2_groups.1 (hr.mono (by decide)) rfl c2_groups.2.1 c2_groups.2.2.1 c2_groups.2.2.2 .nil zA1 (qj EB (qj a qq rfl) rfl))
noncomputable def q1F:FD:=(dOf TD)
noncomputable def q5f:FD:=(W1 (Y0 bn (Y0 (dOf (Y8 q0x Oa)) XC)))
noncomputable def q6y:FS:=(Xd Od
  (Xp (Xi 1 LR Rp iF Xj q5f)))
noncomputable def q0t:List D->Option O:=mir 4 q6y
noncomputable abbrev q4M:vm:=top 29
theorem q4h:FnScope ["things", "knots", "edges", "costs"] bv (Y5 q4M):=ai
variable{fc42:vF}{dc42:vO}(c42:Cal P w K mg base 4 fc42 dc42 "forest" ["things", "knots", "edges"] 3 qS)
variable{fc43:vF}{dc43:vO}(c43:Cal P w K mg base 3 fc43 dc43 "groups_below" ["things", "knots", "edges", "bound"] 4 q0x)
include z26 z27 c40 c42 c43 in
theorem qdV(F:Ln):FnOk P w K mg base CX0 5 f fd bv (spD K 3 q0t):=by
 have h:=fnD (P:=P) (w:=w) (mg:=mg) (base:=base) (k:=4) (body:=q6y) F q4h (λcdv A outer s H E hr=>
   (qb (qo (i:=3) q4h.nd rfl (Or.inl rfl) (XD.toE (XE.toD (q4d rfl z26 rfl z27 (XE.toV (qG rfl (blk ma [] [] rfl ⋯ ⋯ rfl trivial) Mq jA (λ_ _ _ _=>⟨(qg (i:=0) (show (Cv++cQ:List Str).Nodup from by decide +kernel) rfl aC),qB,(XE.toD Bo)⟩)))))))
   (qc (qh (qG rfl (blk MA bv LR rfl ⋯ ⋯ rfl ⟨⟨rfl,(by first|exact Or.inl rfl|exact Or.inr rfl),rfl⟩,⟨⟨rfl,(by first|exact Or.inl rfl|exact Or.inr rfl),rfl⟩,⟨⟨rfl,(by first|exact Or.inl rfl|exact Or.inr rfl),rfl⟩,trivial⟩⟩⟩) acI jA (λ_ _ _ _=>⟨(qg (i:=0) (show (Ao++(bv:List Str):List Str).Nodup from by decide +kernel) rfl aC),qB,(Xl (Yz iE (Yz (XE.toD (xc c43 hr N2)) Y2)))⟩))))))
 exact h
noncomputable def q3I:FS:=Od
theorem qcf{fc42:vF}{dc42:vO}{fc40:vF}{dc40:vO}{fc43:vF}{dc43:vO}(F:Ln)(c42:Cal P w K mg base 4 fc42 dc42 "forest" bv 3 qS)(c40:DD)(c2_gb:zB9 P w K mg base 3 fc43 dc43 "groups_below" fW UI)(z26:abM)(z27:mg "set" = none):FnOk P w K mg base CX0 5 f fd bv Qd:=by
 refine F.ok q4h (λvs H Q E h=>qf6 h) bK;refine qjD (E2:=E0) rfl h ?_ ?_
 ·exact(qo (i:=3) q4h.nd rfl (Or.inl rfl) (XD.toE (XE.toD (q4d rfl z26 rfl z27 (XE.toV (qG rfl (blk ma [] [] rfl ⋯ ⋯ rfl trivial) Mq jA (λ_ _ _ _=>⟨(qg (i:=0) (show (Cv++cQ:List Str).Nodup from by decide +kernel) rfl aC),qB,(XE.toD Bo)⟩)))))))
 ·exact q0e (qbc rfl (blk MA bv LR rfl ⋯ ⋯ rfl ⟨⟨rfl,(by first|exact Or.inl rfl|exact Or.inr rfl),rfl⟩,⟨⟨rfl,(by first|exact Or.inl rfl|exact Or.inr rfl),rfl⟩,⟨⟨rfl,(by first|exact Or.inl rfl|exact Or.inr rfl),rfl⟩,trivial⟩⟩⟩) (q26 lU) (λ_ _ _ _=>⟨q0S (i:=0) (show (Ao++(bv:List Str):List Str).Nodup from by decide +kernel) rfl aC,qbv,q9g (qj EB (qj (q27 c2_gb.1 (hr.mono (by decide)) rfl c2_gb.2.1 c2_gb.2.2.1 c2_gb.2.2.2 .nil zA1 (qj EA (qj o7 (qj lU (qj EB qq rfl) rfl) rfl) rfl)) qq rfl) rfl)⟩))
noncomputable def q2R:FS:=(Xd (sAug (λi j=>i+j) 2 (vOf (Y9 zBW (vOf (Y9 zBC dq bF)) (vOf (Y9 zBC BR bZ)))))
  (Xt 3 (eOf jU)))
noncomputable def q5p:FS:=(Xd (Xt 2 (eOf aW))
  (Xd (Xt 3 (eOf aW))
  (Xd (zAi CD acW q2R)
  (Xp (Y1 2)))))
noncomputable def q2w:List D->Option O:=mir 6 q5p
noncomputable abbrev q5s:vm:=top 30
theorem q19:FnScope ["levels", "rest", "total", "ahead", "bound", "parts"] abV (Y5 q5s):=ai
include z17 in
theorem qc7(F:Fun K "weighed" "weighed" q5s f fd):FnOk P w K mg base CX0 1 f fd abV (spD K 2 q2w):=by
 have h:=fnD (P:=P) (w:=w) (mg:=mg) (base:=base) (k:=0) (body:=q5p) F q19 (λcdv A outer s H E hr=>
   (qb (qo (i:=2) q19.nd rfl (Or.inl rfl) TN)
   (qb (qo (i:=3) q19.nd rfl (Or.inl rfl) TN)
   (qb (q0d PassesOwn.never rfl (qu iE) (q2r rfl (qE (qg (i:=4) q19.nd rfl aC) (qE (qg (i:=5) q19.nd rfl aC) q1C))) (qb (qiF (i:=2) qis q19.nd rfl (Or.inl rfl) (XE.toV (q5u (XE.toV (q0M pT jy)) (XE.toV (q0M kF kL)))))
   (qc (qo (i:=3) q19.nd rfl (Or.inl rfl) (XD.toE Es)))))
   abJ))))
 exact h
noncomputable def q3v:FD:=(dOf (Y8 qU gz))
noncomputable def q2n:FS:=(Xp (WF zAm (Y0 (vOf (Xi 1 [] CD iF Xj q3v)) XC)))
noncomputable def q05:List D->Option O:=mir 1 q2n
noncomputable abbrev q3U:vm:=top 32
theorem qab:FnScope Mz Mz (Y5 q3U):=ai
include c16 z22 in
theorem qa3(F:Fun K "all_whole" "all_whole" q3U f fd):FnOk P w K mg base CX0 2 f fd Mz (spD K 1 q05):=by
 have h:=fnD (P:=P) (w:=w) (mg:=mg) (base:=base) (k:=1) (body:=q2n) F qab (λcdv A outer s H E hr=>
   (qc (qh (qA DC q34 rfl z22 q3n (qm (XE.toV (qG rfl (blk ["part"] [] [] rfl ⋯ ⋯ rfl trivial) GY jA (λ_ _ _ _=>⟨(qg (i:=0) (show (UW++cQ:List Str).Nodup from by decide +kernel) rfl aC),qB,(XE.toD adT)⟩))) qt)))))
 exact h
noncomputable def q3A:FD:=DZ
noncomputable def q3L:FS:=(Xp (Xi 1 [2] adb iF Xj q3A))
noncomputable def q03:List D->Option O:=mir 3 q3L
noncomputable abbrev q3T:vm:=top 33
theorem qaf:FnScope ao ao (Y5 q3T):=ai
include c30 c32 in
theorem q9j(F:Fun K "counts_of" "counts_of" q3T f fd):FnOk P w K mg base CX0 7 f fd ao (spD K 3 q03):=by
 have h:=fnD (P:=P) (w:=w) (mg:=mg) (base:=base) (k:=6) (body:=q3L) F qaf (λcdv A outer s H E hr=>
   (qc (qh (qG rfl (blk LS R9 [2] rfl ⋯ ⋯ rfl ⟨⟨rfl,(by first|exact Or.inl rfl|exact Or.inr rfl),rfl⟩,trivial⟩) acH jA (λ_ _ _ _=>⟨(qg (i:=0) (show (mi++(R9:List Str):List Str).Nodup from by decide +kernel) rfl aC),qB,BX⟩)))))
 exact h
noncomputable def q2N:FD:=aaW
noncomputable def q3i:FS:=(Xp (eOf (zBY (dOf (Y9 gR aH bZ)) (dOf (WF zAm (Y0 (vOf (Xi 1 [] CD iF Xj q2N)) XC))))))
noncomputable def q1b:List D->Option O:=mir 2 q3i
noncomputable abbrev q33:vm:=top 34
theorem q94:FnScope IN IN (Y5 q33):=ai
variable{fc44:vF}{dc44:vO}(c44:Cal P w K mg base 2 fc44 dc44 "all_whole" ["parts"] 1 q05)
include z22 c44 in
theorem q8s(F:Fun K "are_counts" "are_counts" q33 f fd):FnOk P w K mg base CX0 3 f fd IN (spD K 2 q1b):=by
 have h:=fnD (P:=P) (w:=w) (mg:=mg) (base:=base) (k:=2) (body:=q3i) F q94 (λcdv A outer s H E hr=>
   (qc (qh (XD.toE (q1m (XE.toD (zBU hr.units eG kL)) (q36 (XE.toD (qA DC q34 rfl z22 q3n (qm (XE.toV (qG rfl (blk ["count"] [] [] rfl ⋯ ⋯ rfl trivial) GY jA (λ_ _ _ _=>⟨(qg (i:=0) (show ((["count"]:List Str)++cQ:List Str).Nodup from by decide +kernel) rfl aC),qB,Qq⟩))) qt)))))))))
 exact h
noncomputable def q4w:FS:=(Xp (eOf (zBY (dOf (zBE .lst aH)) (zBY (dOf (Y9 oGt nM aW)) aaW))))
noncomputable def q1Z:List D->Option O:=mir 1 q4w
noncomputable abbrev q4z:vm:=top 35
theorem qce:FnScope oh oh (Y5 q4z):=ai
include z11 z17 z21 z23 c44 in
theorem qau(F:Fun K "is_group" "is_group" q4z f fd):FnOk P w K mg base CX0 3 f fd oh (spD K 1 q1Z):=by
 have h:=fnD (P:=P) (w:=w) (mg:=mg) (base:=base) (k:=2) (body:=q4w) F qce (λcdv A outer s H E hr=>
   (qc (qh (XD.toE (q1m (XE.toD JU) (q1m (XE.toD (qjS gX ar)) (q36 Qq)))))))
 exact h
noncomputable def q2A:FD:=(dOf (Y8 q1Z gz))
noncomputable def q2M:FS:=(zDC 2 ff)
noncomputable def q39:FS:=(Xd (sIf (zA4 (WD (W2 (vOf (zBE .lst aH)))) (WD (W2 (vOf (WF zAm (Y0 (vOf (Xi 1 [] CD iF Xj q2A)) XC)))))) kh Wg)
  (Xd (Xt 2 Gu)
  (Xd (zAi CD (gN 3) q2M)
  (Xp (Y9 gR (vOf (zAl cH)) bZ)))))
noncomputable def q0W:List D->Option O:=mir 4 q39
noncomputable abbrev q3o:vm:=top 36
theorem q3j:FnScope ["thing", "places", "grouped", "part"] aa2 (Y5 q3o):=ai
variable{fc45:vF}{dc45:vO}(c45:Cal P w K mg base 3 fc45 dc45 "is_group" ["thing"] 1 q1Z)
include z11 z21 z22 z23 z26 c45 in
theorem q8q(F:Fun K "are_groups" "are_groups" q3o f fd):FnOk P w K mg base CX0 4 f fd aa2 (spD K 2 q0W):=by
 have h:=fnD (P:=P) (w:=w) (mg:=mg) (base:=base) (k:=3) (body:=q39) F q3j (λcdv A outer s H E hr=>
   (qb (qR (XW.toT (q1U (q01 (qN (XE.toV JU))) (q2s (q01 (qN (XE.toV (qA DC q34 rfl z22 q3n (qm (XE.toV (qG rfl (blk ["part"] [] [] rfl ⋯ ⋯ rfl trivial) GY jA (λ_ _ _ _=>⟨(qg (i:=0) (show (UW++cQ:List Str).Nodup from by decide +kernel) rfl aC),qB,(XE.toD (xc c45 hr b9))⟩))) qt)))))))) iL qC)
   (qb (qo (i:=2) q3j.nd rfl (Or.inl rfl) Oc)
   (qb (q0d PassesOwn.never rfl (qu iE) (qg (i:=3) q3j.nd rfl aC) (qc (q9R o7 A3)))
   (qc (qh (zBU hr.units (XE.toV (q7r rfl z26 A2)) kL)))))))
 exact h
noncomputable def q1i:FD:=(dOf (Y9 gR (vOf (zAO 1 fD)) (vOf (zAO 1 fB))))
noncomputable def q1q:FS:=(Xd (Xt 2 (eOf (dOf (Y8 qQ gz))))
  (Xp (WF zAm (Y0 (vOf (Xi 1 [2] (X8 bw) iF Xj q1i)) XC))))
noncomputable def q09:List D->Option O:=mir 3 q1q
noncomputable abbrev q1t:vm:=top 37
theorem q3w:FnScope ["parts", "ties", "numbers"] ac4 (Y5 q1t):=ai
include z22 c38 in
theorem q5L(F:Fun K "holds_together" "holds_together" q1t f fd):FnOk P w K mg base CX0 2 f fd ac4 (spD K 2 q09):=by
 have h:=fnD (P:=P) (w:=w) (mg:=mg) (base:=base) (k:=1) (body:=q1q) F q3w (λcdv A outer s H E hr=>
   (qb (qo (i:=2) q3w.nd rfl (Or.inr rfl) (XD.toE (XE.toD (xc c38 hr b9))))
   (qc (qh (qA DC q34 rfl z22 q3n (qm (XE.toV (qG rfl (blk ["tie"] ["numbers"] [2] rfl ⋯ ⋯ rfl ⟨⟨rfl,(by first|exact Or.inl rfl|exact Or.inr rfl),rfl⟩,trivial⟩) (qu mW) jA (λ_ _ _ _=>⟨(qg (i:=0) (show ((["tie"]:List Str)++(["numbers"]:List Str):List Str).Nodup from by decide +kernel) rfl aC),qB,(XE.toD (zBU hr.units LZ LZ))⟩))) qt))))))
 exact h
noncomputable def q3M:FT:=(tOf (Y9 oLt (vOf TD) (vOf aew)))
noncomputable def q40:FD:=bn
noncomputable def q4D:FS:=(Xd (sIf (zA4 (WD (W2 (vOf (zBE .tup aH)))) (zA4 (tOf (Y9 lh nM ij)) (WD (W2 (vOf aab))))) kh Wg)
  (Xd (sIf (WD (W2 (vOf (Y8 q0W (Y0 fB BH))))) kh Wg)
  (Xd (Xt 4 (Xi 1 [0] Rp iF q3M q40))
  (X5 4 (Xp (Y8 q09 (Y0 fB (Y0 (dOf (Y9 WC cH dq)) XC))))))))
noncomputable def q1S:List D->Option O:=mir 5 q4D
noncomputable abbrev q4v:vm:=top 38
theorem q6J:FnScope ["thing", "places", "ties", "edges", "shorter"] IO (Y5 q4v):=ai
variable{fc46:vF}{dc46:vO}(c46:Cal P w K mg base 4 fc46 dc46 "are_groups" ["thing", "places"] 2 q0W)
variable{fc47:vF}{dc47:vO}(c47:Cal P w K mg base 2 fc47 dc47 "holds_together" ["parts", "ties"] 2 q09)
include z11 c16 z17 z18 z19 c40 c46 c47 in
theorem qav(F:Fun K "is_level" "is_level" q4v f fd):FnOk P w K mg base CX0 5 f fd IO (spD K 4 q1S):=by
 have h:=fnD (P:=P) (w:=w) (mg:=mg) (base:=base) (k:=4) (body:=q4D) F q6J (λcdv A outer s H E hr=>
   (qb (qR (XW.toT (q1U (q01 (qN (XE.toV JV))) (q1U (Ww hr.units gX ar) (q2s (q01 (qN (XE.toV DK))))))) iL qC)
   (qb (qR (q01 (qN (XE.toV (xc c46 hr (Yz bq fK))))) iL qC)
   (qb (q1D (i:=4) rfl q6J.nd rfl rfl (blk ma oh [0] rfl ⋯ ⋯ rfl ⟨⟨rfl,(by first|exact Or.inl rfl|exact Or.inr rfl),rfl⟩,trivial⟩) acI jA (λ_ _ _ _=>⟨(qg (i:=0) (show (Cv++(oh:List Str):List Str).Nodup from by decide +kernel) rfl aC),(q2Y (q49 (XE.toV Bo) (XE.toV (Y6 kL ar)))),iE⟩))
   (qW 4 (qc (qh (xc c47 hr (Yz bq (Yz (XE.toD (qM A2 pT)) Y2))))))))))
 exact h
noncomputable def q1p:FD:=(dOf (Y9 oLt aH bZ))
noncomputable def q1Y:FS:=(Xp (WF zAm (Y0 (vOf (Xi 2 [] (iZp (Y0 (dOf (Y9 WC (vOf (zAg (Y0 aW XC))) aH)) gz)) Ho Xj q1p)) XC)))
noncomputable def q0o:List D->Option O:=mir 1 q1Y
noncomputable abbrev q1H:vm:=top 39
theorem q72:FnScope ac6 ac6 (Y5 q1H):=ai
include z22 z29 in
theorem q6f(F:Fun K "rise_from_one" "rise_from_one" q1H f fd):FnOk P w K mg base CX0 1 f fd ac6 (spD K 1 q0o):=by
 have h:=fnD (P:=P) (w:=w) (mg:=mg) (base:=base) (k:=0) (body:=q1Y) F q72 (λcdv A outer s H E hr=>
   (qc (qh (qA DC q34 rfl z22 q3n (qm (XE.toV (qG rfl (blk Ka [] [] rfl ⋯ ⋯ rfl trivial) (q6I rfl z29 (Yz (XE.toD (qM (XE.toV (Xy IT)) eG)) b9)) kT (λ_ _ _ _=>⟨(q2r rfl (qE (qg (i:=0) (show ((Ka:List Str)++cQ:List Str).Nodup from by decide +kernel) rfl aC) (qE (qg (i:=1) (show ((Ka:List Str)++cQ:List Str).Nodup from by decide +kernel) rfl aC) q1C))),qB,(XE.toD (qk4 eG kL))⟩))) qt)))))
 exact h
noncomputable def q2I:FD:=(dOf (Y8 q1S (Y0 bn aR)))
noncomputable def q2B:FD:=fD
noncomputable def q3f:FS:=(Xd (sIf (WD (W2 (vOf (zBE .lst bF)))) kh Wg)
  (Xd ac8
  (Xd (Xt 5 (eOf Cc))
  (Xd (Xt 6 (eOf Do))
  (Xd (sIf (WD (W2 (vOf (WF zAm (Y0 (vOf (Xi 1 [4,5,6] Rp iF Xj q2I)) XC))))) kh Wg)
  (Xp (Y8 q0o (Y0 (dOf (Xi 1 [] Rp iF Xj q2B)) XC))))))))
noncomputable def q16:List D->Option O:=mir 7 q3f
noncomputable abbrev q3p:vm:=top 40
theorem q1Q:FnScope ["home", "last", "boxes", "thing", "places", "ties", "edges"] bO (Y5 q3p):=ai
variable{fc48:vF}{dc48:vO}(c48:Cal P w K mg base 8 fc48 dc48 "knots" ["home", "last", "boxes"] 3 q0y)
variable{fc49:vF}{dc49:vO}(c49:Cal P w K mg base 7 fc49 dc49 "gap_edges" ["home", "last", "boxes"] 3 qT)
variable{fc50:vF}{dc50:vO}(c50:Cal P w K mg base 5 fc50 dc50 "is_level" ["thing", "places", "ties", "edges"] 4 q1S)
variable{fc51:vF}{dc51:vO}(c51:Cal P w K mg base 1 fc51 dc51 "rise_from_one" ["bounds"] 1 q0o)
include z11 z21 z22 z23 c28 c48 c49 c50 c51 in
theorem q8m(F:Fun K "are_levels" "are_levels" q3p f fd):FnOk P w K mg base CX0 9 f fd bO (spD K 4 q16):=by
 have h:=fnD (P:=P) (w:=w) (mg:=mg) (base:=base) (k:=8) (body:=q3f) F q1Q (λcdv A outer s H E hr=>
   (qb (qR (q01 (qN (XE.toV (q0K jy z23 rfl z11 rfl z21 q1A)))) iL qC)
   (qb (qo (i:=4) q1Q.nd rfl (Or.inr rfl) TM)
   (qb (qo (i:=5) q1Q.nd rfl (Or.inr rfl) (XD.toE oT))
   (qb (qo (i:=6) q1Q.nd rfl (Or.inr rfl) (XD.toE oR))
   (qb (qR (q01 (qN (XE.toV (qA DC q34 rfl z22 q3n (qm (XE.toV (qG rfl (blk R7 OL [4,5,6] rfl ⋯ ⋯ rfl ⟨⟨rfl,(by first|exact Or.inl rfl|exact Or.inr rfl),rfl⟩,⟨⟨rfl,(by first|exact Or.inl rfl|exact Or.inr rfl),rfl⟩,⟨⟨rfl,(by first|exact Or.inl rfl|exact Or.inr rfl),rfl⟩,trivial⟩⟩⟩) acI jA (λ_ _ _ _=>⟨(qg (i:=0) (show ((R7:List Str)++(OL:List Str):List Str).Nodup from by decide +kernel) rfl aC),qB,(XE.toD (xc c50 hr (Yz iE bA)))⟩))) qt))))) iL qC)
   (qc (qh (xc c51 hr (Yz (XE.toD (qG rfl (blk R7 [] [] rfl ⋯ ⋯ rfl trivial) acI jA (λ_ _ _ _=>⟨(qg (i:=0) (show ((R7:List Str)++cQ:List Str).Nodup from by decide +kernel) rfl aC),qB,bq⟩))) Y2))))))))))
 exact h
noncomputable def q3K:FS:=(Xd aaJ
  (Xd (sIf (zA4 (WD (W2 (vOf (zBE .tup bF)))) (tOf (Y9 lh (vOf (WF zAN Ob)) ij))) kh Wg)
  (Xp (eOf (zBY (dOf (Y8 q1b (Y0 (dOf N8) (Y0 J6 XC)))) (dOf (Y8 q16 (Y0 bn (Y0 bw (Y0 fj (Y0 Tv XC)))))))))))
noncomputable def q04:List D->Option O:=mir 4 q3K
noncomputable abbrev q3S:vm:=top 41
theorem qa7:FnScope bO bO (Y5 q3S):=ai
variable{fc52:vF}{dc52:vO}(c52:Cal P w K mg base 9 fc52 dc52 "are_levels" ["home", "last", "boxes", "thing"] 4 q16)
variable{fc53:vF}{dc53:vO}(c53:Cal P w K mg base 3 fc53 dc53 "are_counts" ["thing", "wanted"] 2 q1b)
variable{fc54:vF}{dc54:vO}(c54:Cal P w K mg base 7 fc54 dc54 "counts_of" ["home", "last", "boxes"] 3 q03)
include z11 z17 z18 z19 c25 c52 c53 c54 in
theorem qa0(F:Fun K "is_reason" "is_reason" q3S f fd):FnOk P w K mg base CX0 10 f fd bO (spD K 4 q04):=by
 have h:=fnD (P:=P) (w:=w) (mg:=mg) (base:=base) (k:=9) (body:=q3K) F qa7 (λcdv A outer s H E hr=>
   (qb Tk
   (qb (qR (XW.toT (q1U (q01 (qN (XE.toV (q0K jy z19 rfl z11 rfl z18 q4I)))) (q2s (Ww hr.units (XE.toV IE) ar)))) iL qC)
   (qc (qh (XD.toE (q1m (XE.toD (xc c53 hr (Yz oe (Yz Dr Y2)))) (q36 (XE.toD (xc c52 hr (Yz iE (Yz mW (Yz pU (Yz oe Y2))))))))))))))
 exact h
noncomputable def q3k:FS:=(Xp (Y9 zBW (vOf Bs) (vOf (Y9 WC (vOf (Y9 WC (vOf aex) (vOf (Y9 oIx aH kX)))) (vOf (WF zCe (Y0 bZ XC)))))))
noncomputable def q0V:List D->Option O:=mir 2 q3k
noncomputable abbrev q3h:vm:=top 42
theorem qa6:FnScope m9 m9 (Y5 q3h):=ai
variable(z55:mg "abs" = none)
include z55 in
theorem q8z(F:Fun K "gap_weight" "gap_weight" q3h f fd):FnOk P w K mg base CX0 1 f fd m9 (spD K 2 q0V):=by
 have h:=fnD (P:=P) (w:=w) (mg:=mg) (base:=base) (k:=0) (body:=q3k) F qa6 (λcdv A outer s H E hr=>
   (qc (qh (q5u (XE.toV (q0M lH lH)) (XE.toV (qM (XE.toV (qM lH lH)) (XE.toV (qA q5S q9q rfl z55 q9U (qm kL qt)))))))))
 exact h
noncomputable def q50:FD:=(dOf (Y8 q0V kg))
noncomputable def q6g:FS:=(Xd (sIf (WD (W2 (vOf (Y8 q04 (Y0 bn aR))))) sNo Wg)
  (Xd (Xt 4 (Xi 2 [] (iZp (Y0 (dOf N8) BW)) Ho Xj q50))
  (X5 4 (Xp (Y9 WC (vOf (WF bSum (Y0 dq XC))) (vOf (Y9 zBW ij (vOf (Y8 q2w (Y0 Tv (Y0 be XC)))))))))))
noncomputable def q18:List D->Option O:=mir 5 q6g
noncomputable abbrev q6m:vm:=top 43
theorem q9Z:FnScope ["home", "last", "boxes", "thing", "crossings"] bO (Y5 q6m):=ai
variable{fc56:vF}{dc56:vO}(c56:Cal P w K mg base 10 fc56 dc56 "is_reason" ["home", "last", "boxes", "thing"] 4 q04)
variable{fc57:vF}{dc57:vO}(c57:Cal P w K mg base 1 fc57 dc57 "gap_weight" ["count", "lack"] 2 q0V)
variable{fc58:vF}{dc58:vO}(c58:Cal P w K mg base 1 fc58 dc58 "weighed" ["levels", "rest"] 2 q2w)
variable(z59:mg "sum" = none)
include z29 c36 c56 c57 c58 z59 in
theorem qd8(F:Fun K "weight" "weight" q6m f fd):FnOk P w K mg base CX0 11 f fd bO (spD K 4 q18):=by
 have h:=fnD (P:=P) (w:=w) (mg:=mg) (base:=base) (k:=10) (body:=q6g) F q9Z (λcdv A outer s H E hr=>
   (qb (qR (q01 (qN (XE.toV (xc c56 hr (Yz iE bA))))) S9 qC)
   (qb (q1D (i:=4) rfl q9Z.nd rfl rfl (blk m9 [] [] rfl ⋯ ⋯ rfl trivial) (q6I rfl z29 (Yz oe pX)) kT (λ_ _ _ _=>⟨(q2r rfl (qE (qg (i:=0) (show ((m9:List Str)++cQ:List Str).Nodup from by decide +kernel) rfl aC) (qE (qg (i:=1) (show ((m9:List Str)++cQ:List Str).Nodup from by decide +kernel) rfl aC) q1C))),qB,(XE.toD (xc c57 hr fF))⟩))
   (qW 4 (qc (qh (qM (XE.toV (qA (q7L rfl) qdF rfl z59 qcX (qm pT qt))) (XE.toV (q5u ar (XE.toV (xc c58 hr (Yz oe IT))))))))))))
 exact h
noncomputable def q6p:FS:=(Xd (Xt 3 (eOf (dOf (Y8 q0t (Y0 pD aae)))))
  (Xp (eOf (W1 (Y0 J6 N9)))))
noncomputable def q0U:List D->Option O:=mir 4 q6p
noncomputable abbrev q0X:vm:=top 44
theorem q4p:FnScope ["home", "last", "boxes", "bounds"] ao (Y5 q0X):=ai
variable{fc60:vF}{dc60:vO}(c60:Cal P w K mg base 5 fc60 dc60 "levels" ["things", "knots", "edges"] 3 q0t)
include c28 c48 c49 c54 c60 in
theorem qeU(F:Lm):FnOk P w K mg base CX0 9 f fd ao (spD K 3 q0U):=by
 have h:=fnD (P:=P) (w:=w) (mg:=mg) (base:=base) (k:=8) (body:=q6p) F q4p (λcdv A outer s H E hr=>
   (qb (qo (i:=3) q4p.nd rfl (Or.inl rfl) (XD.toE (XE.toD (xc c60 hr (Yz lI V7)))))
   (qc (qh (XD.toE (Xl (Yz Dr aaa)))))))
 exact h
noncomputable def q8B:FD:=pD
noncomputable def q8C:FD:=Cc
noncomputable def q8H:FD:=Do
noncomputable def q8E:FD:=J6
theorem qcj{fc49:vF}{dc49:vO}{fc48:vF}{dc48:vO}{fc28:vF}{dc28:vO}{fc54:vF}{dc54:vO}{fc60:vF}{dc60:vO}(F:Lm)(c49:Cal P w K mg base 7 fc49 dc49 "gap_edges" ao 3 qT)(c48:Dv)(c28:Dw)(c54:Cal P w K mg base 7 fc54 dc54 "counts_of" ao 3 q03)(c2_levels:zB9 P w K mg base 5 fc60 dc60 "levels" bv Qd):FnOk P w K mg base CX0 9 f fd ao Fh:=by
 refine F.ok q4p (λvs H Q E h=>qfF h) bK;refine qiL (E1:=E0) (ea:=zAh 0 Ai) (eb:=zAh 1 Ai) (ec:=zAh 2 Ai) (eC:=fstOf (valOf ((Xa q0X).getD 1 stD))) rfl h ?_ ?_ ?_ ?_ ?_ ?_
 ·exact lI
 ·exact oT
 ·exact oR
 ·exact Dr
 ·exact λta tb tc a b c=>qL (i:=3) q4p.nd rfl (by first|exact Or.inl rfl|exact Or.inr rfl) (q27 c2_levels.1 (hr.mono (by decide)) rfl c2_levels.2.1 c2_levels.2.2.1 c2_levels.2.2.2 .nil zA1 Ig) rfl (by first|exact .inl rfl|exact .inr rfl)
 ·exact λtC a=>q0e (q9g (qj a (qj lU qq rfl) rfl))
noncomputable def q7a:FS:=(Xp (Y8 q18 (Y0 bn (Y0 bw (Y0 fj (Y0 (dOf (Y8 q0U ah)) XC))))))
noncomputable def q44:List D->Option O:=mir 3 q7a
noncomputable abbrev q7h:vm:=top 45
theorem qhN:FnScope ao ao (Y5 q7h):=ai
variable{fc61:vF}{dc61:vO}(c61:Cal P w K mg base 11 fc61 dc61 "weight" ["home", "last", "boxes", "thing"] 4 q18)
variable{fc62:vF}{dc62:vO}(c62:Cal P w K mg base 9 fc62 dc62 "reason" ["home", "last", "boxes"] 3 q0U)
include c61 c62 in
theorem qgb(F:Fun K "least" "least" q7h f fd):FnOk P w K mg base CX0 12 f fd ao (spD K 3 q44):=by
 have h:=fnD (P:=P) (w:=w) (mg:=mg) (base:=base) (k:=11) (body:=q7a) F qhN (λcdv A outer s H E hr=>
   (qc (qh (xc c61 hr (Yz iE (Yz mW (Yz pU (Yz (XE.toD (xc c62 hr ak)) Y2))))))))
 exact h
noncomputable abbrev q0p:vm:=top 47
theorem q2q:FnScope IR ED (Y5 q0p):=ai
theorem q4Q(F:Fun K "numbers_by_start" "numbers_by_start" q0p f fd)(z37:mg "enumerate" = none):FnOk P w K mg base CX0 1 f fd ED (spT K):=by
 refine F.ok q2q Bm bK
 ·obtain⟨G,as,_,rp,_⟩:=h
  rw[<- rp.len];rfl
 ·exact qhh (X:=(zCA CX0 P w K mg base IR "numbers_by_start" (Y5 q0p) f cdv A outer s H E).nox) PassesOwn.never rfl q2q.nd rfl rfl rfl (by first|exact Or.inl rfl|exact Or.inr rfl) (by first|exact Or.inl rfl|exact Or.inr rfl) (by first|exact Or.inl rfl|exact Or.inr rfl) (by first|exact .inl rfl|exact .inr rfl) (by first|exact .inl rfl|exact .inr rfl) (by first|exact .inl rfl|exact .inr rfl) rfl z37 EB EA o7 EA oe (λω e h=>qiO h) rfl mN rfl rfl rfl rfl rfl rfl rfl rfl (λt h=>qdp rfl h) (by intro _;rfl) h
noncomputable def q0g:FD:=fD
noncomputable def q0f:FD:=fB
noncomputable def q0u:FS:=(Xp (Y9 gR (vOf (zBK (vOf (Xi 1 [] CD iF Xj q0g)))) (vOf (zBK (vOf (Xi 1 [] CD iF Xj q0f))))))
noncomputable def qI:List D->Option O:=mir 1 q0u
noncomputable abbrev q0s:vm:=top 48
theorem q3Z:FnScope ED ED (Y5 q0s):=ai
include z26 in
theorem q3B(F:Fun K "as_many_begin_as_end" "as_many_begin_as_end" q0s f fd):FnOk P w K mg base CX0 1 f fd ED (spD K 1 qI):=by
 have h:=fnD (P:=P) (w:=w) (mg:=mg) (base:=base) (k:=0) (body:=q0u) F q3Z (λcdv A outer s H E hr=>
   (qc (qh (zBU hr.units (XE.toV (q8I rfl z26 (XE.toV (qG rfl (blk ["arc"] [] [] rfl ⋯ ⋯ rfl trivial) GY jA (λ_ _ _ _=>⟨(qg (i:=0) (show (V6++cQ:List Str).Nodup from by decide +kernel) rfl aC),qB,bq⟩))))) (XE.toV (q8I rfl z26 (XE.toV (qG rfl (blk ["arc"] [] [] rfl ⋯ ⋯ rfl trivial) GY jA (λ_ _ _ _=>⟨(qg (i:=0) (show (V6++cQ:List Str).Nodup from by decide +kernel) rfl aC),qB,bq⟩)))))))))
 exact h
noncomputable abbrev q0T:vm:=top 49
theorem qP:FnScope gH CV (Y5 q0T):=ai
noncomputable def q1K:List D->Option O:=mRF
theorem q8t{f_n:vF}{d_n:vO}(F:Fun K "round_from" "round_from" q0T f fd)(G_n:FnOk P w K mg base CX0 1 f_n d_n ED (spT K))(a_n:mg "numbers_by_start" = some (.ref f_n))(k_n:xl K (.ref f_n)=true)(b_n:Binds K d_n ED [])(z21:aeg)(z_reversed:mg "reversed" = none):FnOk P w K mg base CX0 2 f fd CV (spD K 2 q1K):=by
 refine F.ok qP Bm bK
 ·obtain⟨G,ds,r,_,h2,_,h4,_⟩:=h
  rw[<- h4.len];exact h2
 ·have hu:=hu1 (X:=(zCA CX0 P w K mg base gH "round_from" (Y5 q0T) f cdv A outer s H E).nox) hr.units
  exact qju (X:=(zCA CX0 P w K mg base gH "round_from" (Y5 q0T) f cdv A outer s H E).nox) (f1:=(dOf aeu)) (f0:=(dOf aev)) EX EX (λ_ _ _=>qjq) (λ_ _ _=>qiN) rfl h (λp1 p0=>(ql (qL (i:=2) qP.nd rfl (by first|exact Or.inl rfl|exact Or.inr rfl) (q27 G_n (hr.mono (by decide)) rfl a_n k_n b_n .nil zA1 ad6) rfl (by first|exact .inl rfl|exact .inr rfl)) (ql (qL (i:=3) qP.nd rfl (by first|exact Or.inl rfl|exact Or.inr rfl) Kw rfl (by first|exact .inl rfl|exact .inr rfl)) (ql (qL (i:=4) qP.nd rfl (by first|exact Or.inl rfl|exact Or.inr rfl) Kw rfl (by first|exact .inl rfl|exact .inr rfl)) (ql (qL (i:=5) qP.nd rfl (by first|exact Or.inl rfl|exact Or.inr rfl) EB rfl (by first|exact .inl rfl|exact .inr rfl)) (ql (q8Y PassesOwn.never (qgY (q4l lU (by intro _;rfl)) (qeh (q4l Ph (by intro _;rfl)))).pt (qy (q4L (q4l Ph (by intro _;rfl)) (ql (qL (i:=6) qP.nd rfl (by first|exact Or.inl rfl|exact Or.inr rfl) (q56 PySem.F.plainAttrs_list PySem.F.slot_list_pop PySem.F.type_list_pop q9z (q2X hu o7 VM (by intro _ _;rfl)) rfl rfl) rfl (by first|exact .inl rfl|exact .inr rfl)) (ql (q0i (q2m PySem.F.plainAttrs_list PySem.F.slot_list_append PySem.F.type_list_append q0q lU VI rfl rfl rfl rfl rfl) rfl) (qy (qL (i:=5) qP.nd rfl (by first|exact Or.inl rfl|exact Or.inr rfl) p1 rfl (by first|exact .inl rfl|exact .inr rfl))))) (ql (qL (i:=6) qP.nd rfl (by first|exact Or.inl rfl|exact Or.inr rfl) (q56 PySem.F.plainAttrs_list PySem.F.slot_list_pop PySem.F.type_list_pop q9z lU rfl rfl) rfl (by first|exact .inl rfl|exact .inr rfl)) (ql (q0i (q2m PySem.F.plainAttrs_list PySem.F.slot_list_append PySem.F.type_list_append q0q LJ VI rfl rfl rfl rfl rfl) rfl) (qy (qL (i:=5) qP.nd rfl (by first|exact Or.inl rfl|exact Or.inr rfl) p0 rfl (by first|exact .inl rfl|exact .inr rfl)))))))) (qy (q0e (qcq rfl z21 rfl z_reversed (qj LJ qq rfl) rfl rfl rfl rfl rfl)))))))))
noncomputable def q6o:FS:=(Xd (sIf (WD (W2 (vOf (Y8 qI BH)))) sNo Wg)
  (Xd (Xt 2 (eOf (dOf (Y8 q1K kg))))
  (Xd (sIf (tOf (Y9 lh (vOf AR) (vOf (WF zAN (Y0 bZ XC))))) sNo Wg)
  (Xp (Y1 2)))))
noncomputable def q30:List D->Option O:=mir 3 q6o
noncomputable abbrev q6d:vm:=top 50
theorem q9E:FnScope ["start", "arcs", "row"] CV (Y5 q6d):=ai
variable{fc63:vF}{dc63:vO}(c63:Cal P w K mg base 1 fc63 dc63 "as_many_begin_as_end" ["arcs"] 1 qI)
variable{fc64:vF}{dc64:vO}(c64:Cal P w K mg base 2 fc64 dc64 "round_from" ["start", "arcs"] 2 q1K)
include z17 c63 c64 in
theorem qda(F:Fun K "row_of" "row_of" q6d f fd):FnOk P w K mg base CX0 3 f fd CV (spD K 2 q30):=by
 have h:=fnD (P:=P) (w:=w) (mg:=mg) (base:=base) (k:=2) (body:=q6o) F q9E (λcdv A outer s H E hr=>
   (qb (qR (q01 (qN (XE.toV (xc c63 hr fK)))) S9 qC)
   (qb (qo (i:=2) q9E.nd rfl (Or.inl rfl) (XD.toE (XE.toD (xc c64 hr fF))))
   (qb (qR (Ww hr.units (XE.toV je) (XE.toV (qA qw q08 rfl z17 q0b (qm kL qt)))) S9 qC)
   abJ))))
 exact h
noncomputable def q2K:FS:=(Xd (Xt 3 (eOf (dOf (Y8 q30 (Y0 bn (Y0 (dOf (Y9 WC cH (vOf (zAg (Y0 (W1 (Y0 bw gz)) XC))))) XC))))))
  (Xd (Xt 4 (eOf (dOf (fIdx bF (dOf AR)))))
  (Xp (Y9 WC (vOf (fSl bF (pAt (vOf (Y9 WC dq be))) pNo)) (vOf (fSl bF pNo (pAt dq)))))))
noncomputable def q0k:List D->Option O:=mir 5 q2K
noncomputable abbrev q2F:vm:=top 51
theorem q2L:FnScope ["home", "last", "arcs", "row", "cut"] Rn (Y5 q2F):=ai
variable{fc65:vF}{dc65:vO}(c65:Cal P w K mg base 3 fc65 dc65 "row_of" ["start", "arcs"] 2 q30)
include z17 c65 in
theorem q7y(F:Fun K "row_between" "row_between" q2F f fd):FnOk P w K mg base CX0 4 f fd Rn (spD K 3 q0k):=by
 have h:=fnD (P:=P) (w:=w) (mg:=mg) (base:=base) (k:=3) (body:=q2K) F q2L (λcdv A outer s H E hr=>
   (qb (qo (i:=3) q2L.nd rfl (Or.inl rfl) (XD.toE (XE.toD (xc c65 hr (Yz iE (Yz (XE.toD (qM A2 (XE.toV (Xy (Yz (Xl (Yz mW b9)) Y2))))) Y2))))))
   (qb (qo (i:=4) q2L.nd rfl (Or.inl rfl) (XD.toE (XE.toD (qeY jy (XE.toD je)))))
   (qc (qh (qM (XE.toV (Wk jy (Wn (XE.toV (qM pT ar))) zAq)) (XE.toV (Wk jy zAq (Wn pT)))))))))
 exact h
noncomputable def q4Y:FD:=(dOf (WF zCe (Y0 (vOf (Y9 zBC (vOf (Y9 oIx aH (vOf (fNeg be)))) (vOf (Y9 oIx aH (vOf (fNeg ij)))))) XC)))
noncomputable def q6q:FS:=(Xp (WF bSum (Y0 (vOf (Xi 1 [] CD iF Xj q4Y)) XC)))
noncomputable def q3b:List D->Option O:=mir 1 q6q
noncomputable abbrev q64:vm:=top 53
theorem qf2:FnScope R6 R6 (Y5 q64):=ai
include z55 z59 in
theorem qec(F:Fun K "length" "length" q64 f fd):FnOk P w K mg base CX0 1 f fd R6 (spD K 1 q3b):=by
 have h:=fnD (P:=P) (w:=w) (mg:=mg) (base:=base) (k:=0) (body:=q6q) F qf2 (λcdv A outer s H E hr=>
   (qc (qh (qA (q7L rfl) qdF rfl z59 qcX (qm (XE.toV (qG rfl (blk ["move"] [] [] rfl ⋯ ⋯ rfl trivial) GY jA (λ_ _ _ _=>⟨(qg (i:=0) (show ((["move"]:List Str)++cQ:List Str).Nodup from by decide +kernel) rfl aC),qB,(XE.toD (qA q5S q9q rfl z55 q9U (qm (XE.toV (q0M IY IY)) qt)))⟩))) qt)))))
 exact h
noncomputable def q1R:FS:=(Xd (Xt 6 (eOf (dOf (fIte (tOf (Y9 oGt eZ aW)) (Y1 4) (eOf (W1 (Y0 (dOf N6) (Y0 (dOf N7) XC))))))))
  (zDC 3 (dOf (Y9 zBx (vOf (zAg (Y0 Ea XC))) (vOf (WF zCe (Y0 eZ XC)))))))
noncomputable def q28:FS:=(Xd (Xt 3 Gu)
  (Xd (zAi abN acW q1R)
  (zAo 3)))
noncomputable def q0z:List D->Option O:=mir 7 q28
noncomputable abbrev q2b:vm:=top 54
theorem q0v:FnScope ["home", "last", "boxes", "arcs", "gap", "lack", "arc"] ao (Y5 q2b):=ai
include z29 c30 c36 z55 in
theorem q6L(F:Fun K "lacking_arcs" "lacking_arcs" q2b f fd):FnOk P w K mg base CX0 8 f fd ao (spD K 3 q0z):=by
 have h:=fnD (P:=P) (w:=w) (mg:=mg) (base:=base) (k:=7) (body:=q28) F q0v (λcdv A outer s H E hr=>
   (qb (qo (i:=3) q0v.nd rfl (Or.inl rfl) Oc)
   (qb (q0d PassesOwn.never rfl (q6I rfl z29 (Yz jE pX)) (q2r rfl (qE (qg (i:=4) q0v.nd rfl aC) (qE (qg (i:=5) q0v.nd rfl aC) q1C))) (qb (qo (i:=6) q0v.nd rfl (Or.inl rfl) (XD.toE (XE.toD (qdh (qjQ RL ar) (vE 4) (XD.toE (Xl (Yz da (Yz da Y2))))))))
   (qc (q9R lU (XE.toD (qj4 (XE.toV (Xy (Yz RO Y2))) (XE.toV (qA q5S q9q rfl z55 q9U (qm RL qt)))))))))
   (qc (q5C lU)))))
 exact h
noncomputable def q2i:FS:=(Xd (zCW 3 (W1 (Y0 FL (Y0 (dOf Bt) XC))))
  (zCW 3 (W1 (Y0 (dOf Bt) (Y0 FL XC)))))
noncomputable def q2C:FS:=(Xd (Xt 3 Gu)
  (Xd ac8
  (Xd (zAi (X8 (dOf (Y8 qS (Y0 jU aae)))) R3 q2i)
  (zAo 3))))
noncomputable def q0N:List D->Option O:=mir 6 q2C
noncomputable abbrev q2J:vm:=top 55
theorem q1n:FnScope ["home", "last", "boxes", "arcs", "places", "edge"] ao (Y5 q2J):=ai
include c28 c42 c48 c49 in
theorem q7j(F:Fun K "forest_arcs" "forest_arcs" q2J f fd):FnOk P w K mg base CX0 9 f fd ao (spD K 3 q0N):=by
 have h:=fnD (P:=P) (w:=w) (mg:=mg) (base:=base) (k:=8) (body:=q2C) F q1n (λcdv A outer s H E hr=>
   (qb (qo (i:=3) q1n.nd rfl (Or.inl rfl) Oc)
   (qb (qo (i:=4) q1n.nd rfl (Or.inl rfl) TM)
   (qb (q0d PassesOwn.never rfl (qu (XE.toD (xc c42 hr (Yz Es V7)))) (qg (i:=5) q1n.nd rfl aC) (qb JT
   (qc JT)))
   (qc (q5C lU))))))
 exact h
noncomputable def q3l:FS:=(Xd (sIf (tOf (Y9 oLt aH (vOf AR))) (Xp (eOf (W1 (Y0 (fC (.str "box")) (Y0 bn AE))))) Wg)
  (Xp (eOf (W1 (Y0 (fC (.str "go")) AE)))))
noncomputable def q1O:List D->Option O:=mir 3 q3l
noncomputable abbrev q3c:vm:=top 56
theorem q9Y:FnScope BV BV (Y5 q3c):=ai
include z17 in
theorem q8o(F:Fun K "move_along" "move_along" q3c f fd):FnOk P w K mg base CX0 1 f fd BV (spD K 3 q1O):=by
 have h:=fnD (P:=P) (w:=w) (mg:=mg) (base:=base) (k:=0) (body:=q3l) F q9Y (λcdv A outer s H E hr=>
   (qb (qR (q49 eG (XE.toV je)) (qc (qh (XD.toE (Xl (Yz zCg (Yz iE V9)))))) qC)
   (qc (qh (XD.toE (Xl (Yz zCg V9)))))))
 exact h
noncomputable def q7p:FD:=(dOf (Y8 q1O (Y0 bn (Y0 (dOf (Y9 oIx cH aH)) BH))))
noncomputable def q9c:FS:=(Xd (Xt 3 (eOf (dOf (Y9 WC (vOf (Y8 q0z ah)) (vOf (Y8 q0N ah))))))
  (Xd (Xt 4 (eOf (dOf (Y9 WC cH bF))))
  (Xp (Xi 1 [2,4] (X8 (dOf (Y8 q0k (Y0 bn (Y0 bw (Y0 jU XC)))))) iF Xj q7p))))
noncomputable def q54:List D->Option O:=mir 5 q9c
noncomputable abbrev q9f:vm:=top 57
theorem q8W:FnScope ["home", "last", "boxes", "empty", "arcs"] ao (Y5 q9f):=ai
variable{fc66:vF}{dc66:vO}(c66:Cal P w K mg base 8 fc66 dc66 "lacking_arcs" ["home", "last", "boxes"] 3 q0z)
variable{fc67:vF}{dc67:vO}(c67:Cal P w K mg base 9 fc67 dc67 "forest_arcs" ["home", "last", "boxes"] 3 q0N)
variable{fc68:vF}{dc68:vO}(c68:Cal P w K mg base 4 fc68 dc68 "row_between" ["home", "last", "arcs"] 3 q0k)
variable{fc69:vF}{dc69:vO}(c69:Cal P w K mg base 1 fc69 dc69 "move_along" ["number", "arc", "boxes"] 3 q1O)
include c66 c67 c68 c69 in
theorem qhB(F:Fun K "tour" "tour" q9f f fd):FnOk P w K mg base CX0 10 f fd ao (spD K 3 q54):=by
 have h:=fnD (P:=P) (w:=w) (mg:=mg) (base:=base) (k:=9) (body:=q9c) F q8W (λcdv A outer s H E hr=>
   (qb (qo (i:=3) q8W.nd rfl (Or.inl rfl) (XD.toE (XE.toD (qM (XE.toV (xc c66 hr ak)) (XE.toV (xc c67 hr ak))))))
   (qb (qo (i:=4) q8W.nd rfl (Or.inr rfl) (XD.toE (XE.toD (qM A2 jy))))
   (qc (qh (qG rfl (blk ["number"] ac5 [2,4] rfl ⋯ ⋯ rfl ⟨⟨rfl,(by first|exact Or.inl rfl|exact Or.inr rfl),rfl⟩,⟨⟨rfl,(by first|exact Or.inl rfl|exact Or.inr rfl),rfl⟩,trivial⟩⟩) (qu (XE.toD (xc c68 hr (Yz iE (Yz mW (Yz Es Y2)))))) jA (λ_ _ _ _=>⟨(qg (i:=0) (show ((["number"]:List Str)++(ac5:List Str):List Str).Nodup from by decide +kernel) rfl aC),qB,(XE.toD (xc c69 hr (Yz iE (Yz (XE.toD (Y6 A2 eG)) fK))))⟩)))))))
 exact h
noncomputable def q24:FS:=(Xd (sIf (tOf (Y9 oLt bZ nM)) (Xp (Y9 oIx aH bZ)) Wg)
  (Xp (eOf aW)))
noncomputable def q07:List D->Option O:=mir 2 q24
noncomputable abbrev q2d:vm:=top 59
theorem q7C:FnScope N0 N0 (Y5 q2d):=ai
include z17 in
theorem q6C(F:Fun K "_law_cell_at" "_law_cell_at" q2d f fd):FnOk P w K mg base CX0 1 f fd N0 (spD K 2 q07):=by
 have h:=fnD (P:=P) (w:=w) (mg:=mg) (base:=base) (k:=0) (body:=q24) F q7C (λcdv A outer s H E hr=>
   (qb (qR (q49 kL gX) (qc (qh (Y6 eG kL))) qC)
   (qc (qh TN))))
 exact h
noncomputable def q5d:FS:=pE
noncomputable def q1T:List D->Option O:=mir 1 q5d
noncomputable abbrev q3m:vm:=top 60
theorem q9W:FnScope R8 R8 (Y5 q3m):=ai
include z11 z12 z13 z14 z15 in
theorem q8n(F:Fun K "_law_whole" "_law_whole" q3m f fd):FnOk P w K mg base CX0 1 f fd R8 (spD K 1 q1T):=by
 have h:=fnD (P:=P) (w:=w) (mg:=mg) (base:=base) (k:=0) (body:=q5d) F q9W (λcdv A outer s H E hr=>
   io)
 exact h
noncomputable def q35:FS:=(Xd (sIf (tOf (Y9 gR RM aW)) (Xp (Y9 zBC (vOf (Y9 oMod EM (fC (.int 19)))) Pq)) Wg)
  (Xd (sIf (tOf (Y9 gR RM be)) (Xp (Y9 zBC (vOf (Y9 oMod EM (fC (.int 2001)))) (fC (.int 1000)))) Wg)
  (Xp (Y9 zBC (vOf (Y9 oMod EM (vOf (Y9 WC (vOf (Y9 zBW ij CP)) be)))) CP))))
noncomputable def q0Z:List D->Option O:=mir 1 q35
noncomputable abbrev q37:vm:=top 61
theorem q9e:FnScope ["cell"] ["cell"] (Y5 q37):=ai
theorem q8i(F:Fun K "_law_place" "_law_place" q37 f fd):FnOk P w K mg base CX0 1 f fd ["cell"] (spD K 1 q0Z):=by
 have h:=fnD (P:=P) (w:=w) (mg:=mg) (base:=base) (k:=0) (body:=q35) F q9e (λcdv A outer s H E hr=>
   (qb jM
   (qb jM
   (qc (qh (q0M (XE.toV (q02 TL (XE.toV (qM (XE.toV (q5u ar TK)) ar)))) TK))))))
 exact h
noncomputable def q42:FD:=(dOf (Y8 q0Z (Y0 (dOf (Y8 q07 (Y0 bw (Y0 (dOf (Y9 WC be aH)) XC)))) XC)))
noncomputable def q22:FS:=(Xd (Xt 7 (eOf (dOf (Y9 oIx dq (vOf (Y9 oMod DL bF))))))
  (Xd (Xt 8 (eOf (dOf (Y9 oIx dq (vOf (Y9 oMod (vOf (Y9 oDiv DL bF)) bF))))))
  (Xd (sIf SZ (zCW 5 (W1 (Y0 Rj (Y0 Ri XC)))) Wg)
  (sIf (zBo SZ (zA4 (tOf (Y9 gR AC be)) (zBo (tOf (Y9 gR AC ij)) (tOf (Y9 gR (vOf (Y9 oMod (vOf (Y9 oDiv DL aeo)) ij)) be))))) (zCW 5 (W1 (Y0 Ri Ap))) Wg))))
noncomputable def q2D:FS:=(Xd (Xt 2 (eOf (dOf (Y9 oMod (vOf (Y9 zBW (vOf (Y8 q07 (Y0 bn (Y0 aW XC)))) (fC (.int 48271)))) (fC (.int 65537))))))
  (Xd (Xt 3 (eOf (dOf (Y9 zBC Ii (vOf (Y9 oMod cH Ii))))))
  (Xd (Xt 4 (Xi 1 [0] (iRg1 Ob) iF Xj q42))
  (X5 4 (Xd (Xt 5 Gu)
  (Xd (zAi (X8 (dOf (fSl aH (pAt Pq) (pAt (vOf (Y9 WC Pq (vOf (Y9 oIx (vOf (zAg (Y0 bw (Y0 kX (Y0 be (Y0 (fC (.int 5)) (Y0 aW (Y0 ij (Y0 bw (Y0 (fC (.int 4)) XC)))))))))) (vOf (Y9 oMod (vOf (Y9 oDiv cH (fC (.int 512)))) Ii)))))))))) (gN 6) q22)
  (Xd (Xt 9 (eOf (dOf (Y9 oIx dq (vOf (Y9 oMod (vOf (Y9 oDiv cH Ii)) bF))))))
  (Xd (sIf (tOf (Y9 gR (vOf (Y9 oMod (vOf (Y9 oDiv cH (fC (.int 12288)))) ij)) aW)) (X5 5 (Xp (eOf (W1 (Y0 Rh (Y0 Rh aad)))))) Wg)
  (X5 5 (Xp (eOf (W1 (Y0 Rh (Y0 (dOf (Y9 oIx dq (vOf (Y9 oMod (vOf (Y9 oDiv cH aeo)) bF)))) aad))))))))))))))
noncomputable def q0L:List D->Option O:=mir 10 q2D
noncomputable abbrev q2E:vm:=top 62
theorem qJ:FnScope ["script", "most", "head", "many", "spots", "boxes", "cell", "one", "other", "home"] J9 (Y5 q2E):=ai
variable{fc70:vF}{dc70:vO}(c70:Cal P w K mg base 1 fc70 dc70 "_law_cell_at" ["script", "k"] 2 q07)
variable{fc71:vF}{dc71:vO}(c71:Cal P w K mg base 1 fc71 dc71 "_law_place" ["cell"] 1 q0Z)
variable(z72:mg "range" = none)
include z17 c70 c71 z72 in
theorem q7I(F:Fun K "_law_errand" "_law_errand" q2E f fd):FnOk P w K mg base CX0 2 f fd J9 (spD K 2 q0L):=by
 have h:=fnD (P:=P) (w:=w) (mg:=mg) (base:=base) (k:=1) (body:=q2D) F qJ (λcdv A outer s H E hr=>
   (qb (qo (i:=2) qJ.nd rfl (Or.inl rfl) (XD.toE (XE.toD (q02 (XE.toV (q5u (XE.toV (xc c70 hr (Yz iE IT))) ar)) ar))))
   (qb (qo (i:=3) qJ.nd rfl (Or.inl rfl) (XD.toE (XE.toD (q0M ar (XE.toV (q02 A2 ar))))))
   (qb (q1D (i:=4) rfl qJ.nd rfl rfl (blk ["k"] Fl [0] rfl ⋯ ⋯ rfl ⟨⟨rfl,(by first|exact Or.inl rfl|exact Or.inr rfl),rfl⟩,trivial⟩) (qdK rfl z72 VH) jA (λ_ _ _ _=>⟨(qg (i:=0) (show ((["k"]:List Str)++(Fl:List Str):List Str).Nodup from by decide +kernel) rfl aC),qB,(XE.toD (xc c71 hr (Yz (XE.toD (xc c70 hr (Yz mW (Yz (XE.toD (qM ar eG)) Y2)))) Y2)))⟩))
   (qW 4 (qb (qo (i:=5) qJ.nd rfl (Or.inl rfl) Oc)
   (qb (q0d PassesOwn.never rfl (qu (XE.toD (Wk eG (Wn ar) (Wn (XE.toV (qM ar (XE.toV (Y6 (XE.toV (Xy (Yz mW (Yz Y3 (Yz Y3 (Yz Y3 (Yz Y3 (Yz Y3 (Yz mW IT))))))))) hW)))))))) (qg (i:=6) qJ.nd rfl aC) (qb (qo (i:=7) qJ.nd rfl (Or.inl rfl) (XD.toE (XE.toD (Y6 pT (XE.toV (q02 Vz jy))))))
   (qb (qo (i:=8) qJ.nd rfl (Or.inl rfl) (XD.toE (XE.toD (Y6 pT (XE.toV (q02 (XE.toV (q0B Vz jy)) jy))))))
   (qb (qR (q49 kF kL) (qc (q2z VM (Xl (Yz (vD 7) aet)))) qC)
   (qc (qR (XW.toT (qdO (q49 kF kL) (qbD (XW.toT (q1U Ft (q2s (XW.toT (qdO Ft (qbD (zAr hr.units (XE.toV (q02 (XE.toV (q0B Vz ar)) ar)) ar)))))))))) (qc (q2z VM (Xl (Yz (vD 8) N5)))) qC))))))
   (qb (qo (i:=9) qJ.nd rfl (Or.inl rfl) (XD.toE GB))
   (qb (qR Ft (qW 5 (qc (qh (XD.toE (Xl (Yz (vD 9) (Yz (vD 9) V8))))))) qC)
   (qW 5 (qc (qh (XD.toE (Xl (Yz (vD 9) (Yz GB V8))))))))))))))))
 exact h
noncomputable def q29:FD:=DZ
noncomputable def q2H:FS:=(Xp (Xi 1 [2] adb iF Xj q29))
noncomputable def q0j:List D->Option O:=mir 3 q2H
noncomputable abbrev q2G:vm:=top 63
theorem q8l:FnScope ao ao (Y5 q2G):=ai
include c30 c32 in
theorem q7u(F:Fun K "_law_counts" "_law_counts" q2G f fd):FnOk P w K mg base CX0 7 f fd ao (spD K 3 q0j):=by
 have h:=fnD (P:=P) (w:=w) (mg:=mg) (base:=base) (k:=6) (body:=q2H) F q8l (λcdv A outer s H E hr=>
   (qc (qh (qG rfl (blk LS R9 [2] rfl ⋯ ⋯ rfl ⟨⟨rfl,(by first|exact Or.inl rfl|exact Or.inr rfl),rfl⟩,trivial⟩) acH jA (λ_ _ _ _=>⟨(qg (i:=0) (show (mi++(R9:List Str):List Str).Nodup from by decide +kernel) rfl aC),qB,BX⟩)))))
 exact h
noncomputable def q8M:FD:=(W1 (Y0 bn (Y0 bw (Y0 (dOf (Y9 zBC bZ aH)) XC))))
noncomputable def qdU:FS:=(sAsg (dOf (Y8 q0L (Y0 bn (Y0 (fC (.int 14)) XC)))) (gT 3 (XQ (gN 1) Bu)))
noncomputable def qeK:FS:=(Xt 4 (eOf (dOf (WF zB8 Ob))))
noncomputable def qiU:FD:=bw
noncomputable def qiz:FD:=fj
noncomputable def qjH:FD:=jU
noncomputable def qeO:FT:=(zA4 (WD (W2 (vOf (zBE .tup eZ)))) (zA4 UH (tOf (Y9 (oIs true) (vOf (Y8 q04 IW)) acZ))))
noncomputable def qd1:FD:=(dOf (Xi 2 [] (X8 (dOf (Y8 q0O aR))) Ho Xj q8M))
noncomputable def qdl:FD:=(dOf (Y8 q0t (Y0 (dOf (Y8 q0h aR)) (Y0 (dOf (Y8 q0y aR)) (Y0 Ea XC)))))
noncomputable def qev:FT:=(tOf (Y9 lh eZ Lk))
noncomputable def qeH:FD:=(dOf (Y8 q44 (Y0 bw (Y0 fj (Y0 jU XC)))))
noncomputable def qcR:FT:=(zA4 (WD (W2 (vOf (Y8 q1T (Y0 Ri XC))))) UH)
noncomputable def qd4:FT:=(zA4 (tOf (Y9 lh (vOf (Y8 q18 IW)) (vOf (Y1 8)))) (tOf (Y9 lh (vOf (Y8 q3b (Y0 (dOf (Y8 q54 aR)) XC))) (vOf (Y1 8)))))
noncomputable def qey:FD:=(dOf (WF zAN (Y0 QR XC)))
noncomputable def qcZ:FT:=(tOf (Y9 lh (vOf (Y9 oIx (vOf Bt) (vOf (Y1 9)))) (vOf (Y9 oIx QR (vOf (Y1 9))))))
noncomputable def qdB:FS:=(Xp (Y9 gR (vOf (Y8 q0U aR)) Lk))
noncomputable def q5x:List D->Option O:=mK42 qdU qeK qiU qiz qjH q8B q8C q8H q3I q1k q1l qF q8E qeO qd1 qdl qev qeH qcR qd4 qey qcZ qdB
noncomputable abbrev q0F:vm:=top 64
theorem q1L:FnScope ["script", "home", "last", "boxes", "handed", "found", "edges", "due", "told", "k", "part"] Fl (Y5 q0F):=ai
theorem qjG{f__law_errand:vF}{d__law_errand:vO}{fc62:vF}{dc62:vO}{f__law_counts:vF}{d__law_counts:vO}{fc56:vF}{dc56:vO}{fc30:vF}{dc30:vO}{fc60:vF}{dc60:vO}{fc48:vF}{dc48:vO}{fc28:vF}{dc28:vO}{f_least:vF}{d_least:vO}{f__law_whole:vF}{d__law_whole:vO}{f_length:vF}{d_length:vO}{f_tour:vF}{d_tour:vO}{fc61:vF}{dc61:vO}(F:Fun K "law" "law" q0F f fd)(c__law_errand:Cal P w K mg base 2 f__law_errand d__law_errand "_law_errand" J9 2 q0L)(c62:Cal P w K mg base 9 fc62 dc62 "reason" ao 3 q0U)(c__law_counts:Cal P w K mg base 7 f__law_counts d__law_counts "_law_counts" ao 3 q0j)(c56:Cal P w K mg base 10 fc56 dc56 "is_reason" bO 4 q04)(c30:Cal P w K mg base 6 fc30 dc30 "gaps" ao 3 q0O)(c60:Cal P w K mg base 5 fc60 dc60 "levels" bv 3 q0t)(c48:Dv)(c28:Dw)(c_least:Cal P w K mg base 12 f_least d_least "least" ao 3 q44)(c__law_whole:Cal P w K mg base 1 f__law_whole d__law_whole "_law_whole" R8 1 q1T)(c_length:Cal P w K mg base 1 f_length d_length "length" R6 1 q3b)(c_tour:Cal P w K mg base 10 f_tour d_tour "tour" ao 3 q54)(c61:Cal P w K mg base 11 fc61 dc61 "weight" bO 4 q18)(c2_reason:zB9 P w K mg base 9 fc62 dc62 "reason" ao Fh)(z21:aeg)(z11:mg "isinstance" = none)(z18:mg "tuple" = none)(z17:mg "len" = none)(z72:mg "range" = none)(z19:IsT K .tup):
  FnOk P w K mg base CX0 13 f fd Fl (spD K 1 q5x):=by
 refine F.ok q1L Bm bK
 ·obtain⟨G,ds,r,_,h2,_,h4,_⟩:=h
  rw[<- h4.len];exact h2
 ·refine qim (ea:=zAh 0 Aj) (eb:=zAh 1 Aj) (ec:=zAh 2 Aj) (e3:=valOf ((Xa q0F).getD 3 stD)) (e6:=valOf ((Xa q0F).getD 6 stD)) (e8:=valOf ((Xa q0F).getD 8 stD)) (e9:=valOf ((Xa q0F).getD 9 stD)) (eL:=zAh 0 (valOf RF)) (e0:=valOf ((bodyOf RF).getD 0 stD)) (E1:=E0) (tF3:=zCC QZ) (tF6:=zCC QZ) (tF8:=zCC QZ) (tF9:=zCC QZ) (tF0:=zCC QZ) ?_ ?_ ?_ ?_ ?_ ?_ ?_ ?_ ?_ ?_ ?_ ?_ ?_ ?_ ?_ ?_ ?_ ?_ ?_ ?_ ?_ rfl h
  ·exact(qjw (XE.toD (xc c__law_errand hr (Yz iE IT))) (q2r rfl (qE (qg (i:=1) q1L.nd rfl aC) (qE (qg (i:=2) q1L.nd rfl aC) (qE (qg (i:=3) q1L.nd rfl aC) q1C)))))
  ·exact(qo (i:=4) q1L.nd rfl (Or.inl rfl) (XD.toE (XE.toD (qgD q5m qb0 rfl z21 q1A VH))))
  ·exact mW
  ·exact pU
  ·exact Es
  ·exact(XW.toT (q1U (q01 (qN (XE.toV (q0K RL z19 rfl z11 rfl z18 q4I)))) (q1U U0 (q2s (zCF (XE.toV (xc c56 hr IS)) (XD.toV Wf))))))
  ·exact(qjA (qhf (i:=6) rfl q1L.nd rfl rfl (blk Li [] [] rfl ⋯ ⋯ rfl trivial) (qu (XE.toD (xc c30 hr bA))) kT (λ_ _ _ _=>⟨(q2r rfl (qE (qg (i:=0) (show ((Li:List Str)++cQ:List Str).Nodup from by decide +kernel) rfl aC) (qE (qg (i:=1) (show ((Li:List Str)++cQ:List Str).Nodup from by decide +kernel) rfl aC) q1C))),qB,(Xl (Yz iE (Yz mW (Yz (XE.toD (q0M kL eG)) Y2))))⟩)))
  ·exact(qdI (XE.toD (xc c60 hr (Yz (XE.toD (xc c28 hr bA)) (Yz (XE.toD (xc c48 hr bA)) (Yz RO Y2))))) λt a=>qL (i:=7) q1L.nd rfl (by first|exact Or.inl rfl|exact Or.inr rfl) a rfl (by first|exact .inl rfl|exact .inr rfl))
  ·exact(Ww hr.units RL ox)
  ·exact(qdI (XE.toD (xc c_least hr (Yz mW (Yz pU (Yz Es Y2))))) λt a=>qL (i:=8) q1L.nd rfl (by first|exact Or.inl rfl|exact Or.inr rfl) a rfl (by first|exact .inl rfl|exact .inr rfl))
  ·exact(XW.toT (q1U (q01 (qN (XE.toV (xc c__law_whole hr aet)))) (q2s U0)))
  ·exact(XW.toT (q1U (Ww hr.units (XE.toV (xc c61 hr IS)) (vV 8)) (q2s (Ww hr.units (XE.toV (xc c_length hr (Yz (XE.toD (xc c_tour hr bA)) Y2))) (vV 8)))))
  ·exact(XE.toD (qA qw q08 rfl z17 q0b (qm (vV 7) qt)))
  ·exact(Ww hr.units (XE.toV (Y6 TJ (vV 9))) (XE.toV (Y6 (vV 7) (vV 9))))
  ·exact(qh (zBU hr.units (XE.toV (xc c62 hr bA)) ox))
  ·exact(λta tb tc a b c=>qL (i:=5) q1L.nd rfl (by first|exact Or.inl rfl|exact Or.inr rfl) (q27 c2_reason.1 (hr.mono (by decide)) rfl c2_reason.2.1 c2_reason.2.2.1 c2_reason.2.2.2 .nil zA1 Ig) rfl (by first|exact .inl rfl|exact .inr rfl))
  ·exact kq
  ·exact kq
  ·exact kq
  ·exact kq
  ·exact(λtL T0 a b=>q2y PassesOwn.never rfl (q7W rfl z72 (qj a qq rfl)) (q0S (i:=9) q1L.nd rfl (by first|exact Or.inl rfl|exact Or.inr rfl) (by first|exact .inl rfl|exact .inr rfl)) (ql (q4L b ad5 q2U) (ql (q2y PassesOwn.never rfl (q26 pW) (q0S (i:=10) q1L.nd rfl (by first|exact Or.inl rfl|exact Or.inr rfl) (by first|exact .inl rfl|exact .inr rfl)) (qy (q0i (q56 PySem.F.plainAttrs_list PySem.F.slot_list_clear PySem.F.type_list_clear q9C (pv 10) rfl rfl) rfl))) (qy (q0i (q56 PySem.F.plainAttrs_list PySem.F.slot_list_clear PySem.F.type_list_clear q9C pW rfl rfl) rfl)))))
end
set_option compiler.extract_closed false
set_option hygiene false
local macro_rules|`(tactic| simp_arith $c:optConfig [$xs,*])=>`(tactic| simp $c only[q8T,q8F,qbz,zCp,eq_self,Ya,Zt,Zu,reduceCtorEq,qb1,qdG,qeu,qbi,e_wd,qd5,e_wz,qbA,qe8,qbT,qh1,qel,qeD,qgE,qgv,qgZ,qdJ,qh5,qbW,qaY,qgU,qh0,qcQ,qgM,qgN,qgz,qbq,qaV,qV,qby,qbG,qgG,qgP,qb5,qaJ,e_if,qen,qdT,qgB,qbo,qbg,qdN,qbJ,qgC,zCD,qgw,q9K,q5e,qaU,qaM,qh4,e_fs,qgn,e_ag,e_gn,e_gt,e_gc,e_g0,qgA,qaW,qbr,e_c,e_e,e_ed,e_d,qaX,qaZ,e_v,qaN,qbf,qbK,e_op,e_o2,qdk,e_cl,qc2,qc3,e_ac,e_ca,e_an,qgF,qgO,qgq,e_bl,qgr,e_sl,e_po,e_pa,e_ap,qgR,qeG,qdr,qgx,q8b,q81,e_t,e_tr,qeQ,e_ta,qgL,qgW,e_to,qgJ,qe6,e_tn,qeF,qb9,q8J,qdj,e_va,qgH,qeC,qdR,qdC,qh2,qdo,WZ,qgT,e_ng,qbC,qbh,qbe,q9T,qbU,qd9,qdm,qbR,qee,qdt,qea,qb8,qc0,qgX,qh3,qgV,at0,at1,at2,q7b,q7n,zCU,entry,yW,xH,zJ,wF,zB,zZ,yr,ZU,yT,yU,wR,YA,YB,xV,wC,Nat.reduceSub,Nat.reduceAdd,Nat.reduceLT,Int.reduceLT,Int.reduceLE,Int.reduceSub,Int.reduceAdd,Int.reduceMul,Int.reduceMod,Int.reduceDiv,Int.reduceNeg,Int.reducePow,Int.reduceBEq,Yh,↓reduceIte,Z1,Yv,w8,ZO,ZA,YL,Z0,Bool.or_true,wq,Yr,xZ,beq_self_eq_true,yG,$xs,*])
set_option compiler.extract_closed true
set_option hygiene true
noncomputable def XJ(p:bo):D:=.tup IM
theorem qbI{ns:af}{k:Int}(h:0<=k):q07 [Cg,md]=↥(.int (ns.getD k.toNat 0)):=by
 unfold q07 q24
 by_cases hk:k<ns.length
 ·simp_arith[hk,decide_true,q1N h hk]
  simp[zX,zA (show k.toNat<ns.length by omega)]
 ·simp_arith[hk,decide_false]
  simp[zX,zu (show ns.length<=k.toNat by omega)]
noncomputable def place(c:Int):Int:=if c%3=0 then c/3%19-9 else if c%3=1 then c/3%2001-1000 else c/3%(2*10^39+1)-10^39
theorem qf5{c:Int}:q0Z [.int c]=↥(.int (place c)):=by
 unfold q0Z q35;have h8:oPow (.int 10) (.int 39)=↥(.int (10^39)):=rfl;have h9:∀x,zBW acd Bh=↥(.int (2*x)):=λx=>q97 (by decide) (by decide);unfold place
 by_cases a:c%3=0
 ·simp_arith[h8,h9,a]
 ·by_cases b:c%3=1
  ·simp_arith[h8,h9,b]
   rfl
  ·have a':(c%3==0)=false:=by simpa using a
   have b':(c%3==1)=false:=by simpa using b
   simp_arith[h8,h9,a',b',a,b]
theorem qif{xs:af}{i:Int}(h0:0<=i)(h1:i<xs.length):∃y,atI ig i=some (.int y):=by
 rw[q1N h0 (by rw[zB];exact h1)];exact⟨_,by rw[wN]⟩
theorem q6Z{xs:af}{c m:Int}(hm:0<m)(h1:Mf=m):∃y,atI ig (c%m)=some (.int y) :=
 qif (Int.emod_nonneg _ ∅) (by rw[h1];exact Int.emod_lt_of_pos _ hm)
theorem qjd{ds:aY}{i:Int}(P:D->Prop)(h0:0<=i)(h1:i<ds.length)(h:∀d∈ds,P d):∃d,atI ds i=some d/\P d :=
 ⟨_,q1N h0 h1,h _ (yZ _)⟩
theorem errand{ns:af}{most:Int}(h0:0<=most)(h1:most<=1000):∃(home last:Int) (bs:ae),q0L [Cg,QB]=↥(.tup [.int home,.int last,aE])/\oC<=most:=by
 obtain⟨head,hh⟩:∃h,ns.getD 0 0*48271%65537=h:=bD;obtain⟨many,hm⟩:∃h,8-head%8=h:=bD;have hm0:0<many:=∅
 have hm8:many<=8:=∅
 have hmul:∀x:Int,zBW Bh (.int 48271)=↥(.int (x*48271)):=λx=>q5Z (by decide) (by decide);have hdm:∀x:Int,oDiv Bh Nf=↥(.int (x/many)):=λx=>q7n hm0 ∅;have hmm:∀x:Int,oMod Bh Nf=↥(.int (x%many)):=λx=>q7b hm0;have hr:rg1I (some [Nf])=some (upTo 0 many.toNat):=qk3 QG;have hl:(upTo 0 many.toNat).length<=1000000:=by rw[qfv];omega
 unfold q0L q2D;have hc0:=qbI (ns:=ns) (k:=0) (by decide);simp_arith[hc0,hmul,hh,hm,hdm,hmm,hr,KF,inW,Wa];rw[q3G (onI λk=>place Qi)]
 case h=>
  intro d hd;obtain⟨i,hi,rfl⟩:=qfh hd;unfold q42;simp_arith[qbI (ns:=ns) (k:=1+(0+oa)) ∅,qf5,onI]
 rw[qgh (λk=>place Qi)];generalize hsp:(Ys (λi:Nat=>place (ns.getD (1+(0+oa)).toNat 0)) (zo many.toNat))=spots;have hsl:(spots.length:Int)=many:=by rw[<- hsp,zB,yC];omega
 simp_arith[qV];have h8:0<=head/512%8/\head/512%8<8:=∅
 obtain⟨top,ht,_⟩:=qjd (ds:=[QB,.int 3,pK,.int 5,Rx,acd,QB,.int 4]) (i:=head/512%8) (λd=>∃k,d=D.int k) h8.1 h8.2 (by
  intro d hd;simp only[zG,zj,or_false]at hd;rcases hd with rfl|rfl|rfl|rfl|rfl|rfl|rfl|rfl <;> exact bD)
 obtain⟨k,rfl⟩:=‹∃k,top=D.int k›;simp_arith[ht,oSl];generalize cutD ns (some 9) (some (9+k))=cells;obtain⟨ω',e,bs,x6,x7,x8,rfl,hb⟩:=qfz (g:=gN 6) (b:=q22) (cells.map D.int)
  (λpre ω=>∃(bs:ae) (x6 x7 x8:dh),ω=[↥Cg,↥QB,↥(.int head),↥Nf,↥(.lst (spots.map D.int)),some (.ow Ax),x6,x7,x8,none]/\oC<=most)
  (λpre d post ω hd Z_=>by
   obtain⟨bs,x6,x7,x8,hω,hb⟩:=Z_;obtain⟨c,hc,rfl⟩:∃c,c∈cells/\D.int c=d:=by
    have:d∈cells.map D.int:=by rw[hd];simp
    obtain⟨c,h1,h2⟩:=zi.mp this;exact⟨c,h1,h2⟩
   subst hω;refine dv;obtain⟨one,h1⟩:=q6Z (c:=c) hm0 hsl;obtain⟨other,h2⟩:=q6Z (c:=c/many) hm0 hsl;unfold q22;have hlen:(bs.map XJ).length<1000000:=by rw[zB];omega
   simp_arith[hdm,hmm,h1,h2,zB,zCD hlen]
   by_cases hc1:oC<most
   ·simp_arith[hc1,decide_true,zCD hlen,zD,zB]
    have hlen2:(bs.map XJ++LQ).length<1000000:=by rw[zD,zB,zT];omega
    have e1:bs.map XJ++LQ=(bs++Rm).map XJ:=by rw[zW];rfl
    generalize hq:(decide (((bs.length+1:Nat):Int)<most)&&_)=q;cases q with
    | true=>
     have:=(wv.mp hq).1;have:=of_decide_eq_true this;simp_arith[zCD hlen2];refine⟨bs++Rm++[(other,one)],_,_,_,by rw[zW,<- e1];rfl,?_⟩;rw[zD,zD,zT,zT];omega
    | false=>
     simp_arith[qV];refine⟨bs++Rm,_,_,_,by rw[<- e1],?_⟩;rw[zD,zT];omega
   ·simp_arith[hc1,decide_false,w8]
    exact⟨bs,_,_,_,rfl,hb⟩)
  ⟨[],none,none,none,rfl,by simpa using h0⟩
 obtain⟨home,g1⟩:=q6Z (c:=head/8) hm0 hsl;obtain⟨last,g2⟩:=q6Z (c:=head/64) hm0 hsl;simp only[yr]at e;simp_arith[e,hdm,hmm,g1,g2]
 by_cases hq:head/12288%2=0
 ·simp_arith[hq]
  exact⟨home,home,bs,rfl,hb⟩
 ·have hq':(head/12288%2==0)=false:=by simpa using hq
  simp_arith[hq',hmm,hdm,g2];exact⟨home,last,bs,rfl,hb⟩
inductive Rch (es:List (Int×Int)) (a:Int):Int->Prop where
 | refl:Rch es a a
 | step {b c:Int}:Rch es a b->((b,c)∈es\/(c,b)∈es)->Rch es a c
theorem Rch.trans{es:ae}{a b c:Int}(h:Rch es a b)(h':Rch es b c):Rch es a c:=by
 induction h' with
 | refl=>exact h
 | step _ e ih=>exact ih.step e
theorem Rch.symm{es:ae}{a b:Int}(h:Rch es a b):Rch es b a:=by
 induction h with
 | refl=>exact .refl
 | step _ e ih=>exact(Rch.refl.step e.symm).trans ih
theorem Rch.inv{es:ae}{a:Int}(P:Int->Prop)(h0:P a)(hs:∀b c,P b->((b,c)∈es\/(c,b)∈es)->P c){c:Int}(h:adk):P c:=by
 induction h with
 | refl=>exact h0
 | step _ e ih=>exact hs _ _ ih e
theorem q6u{α β:Type}(f:α->β):∀(ks:af)(xs:bH)(k:Int),Xc ks (xs.map f) k=(Xc ks xs k).map f
 | [],_,_=>rfl
 | _::_,[],_=>rfl
 | k'::ks,x::xs,k=>by
  show (if k'=k then some (f x)else Xc ks (xs.map f) k)=(if k'=k then some x else Xc ks xs k).map f
  by_cases z:k'=k
  ·rw[iP,iP];rfl
  ·rw[iw,iw,q6u f ks xs k]
theorem q3E{α:Type}:∀{ks:af}{xs:bH}{k:Int},ks.length=xs.length->(Xc ks xs k).isSome=decide (k∈ks)
 | [],[],_,_=>rfl
 | [],_::_,_,h=>by simp at h
 | _::_,[],_,h=>by simp at h
 | k'::ks,x::xs,k,h=>by
  show (if k'=k then some x else Xc ks xs k).isSome=_
  by_cases z:k'=k
  ·rw[iP];simp[z]
  ·have z':¬k=k':=λy=>z y.symm
   rw[iw,q3E ⇑h];simp[z']
theorem q67:∀(ks:af)(xss:bP)(a' b a:Int),Xc ks abX a=(Xc ks xss a).map λxs=>if a=a' then xs++[b]else xs
 | [],_,_,_,_=>rfl
 | _::_,[],_,_,_=>rfl
 | k::ks,x::xss,a',b,a=>by
  unfold Wx
  by_cases z:k=a'
  ·rw[iP]
   show (if k=a then some SQ else Xc ks xss a)=(if k=a then some x else Xc ks xss a).map _
   by_cases y:k=a
   ·rw[K0,K0,xH,vH (y▸z)]
   ·rw[Mk,Mk]
    have:¬a=a':=λe=>y (z.trans e.symm);cases Xc ks xss a with
    | none=>rfl
    | some v=>rw[xH,vJ this]
  ·rw[iw]
   show (if k=a then some x else Xc ks abX a)=(if k=a then some x else Xc ks xss a).map _
   by_cases y:k=a
   ·have:¬a=a':=λe=>z (y.trans e)
    rw[K0,K0,xH,vJ this]
   ·rw[Mk,Mk];exact q67 ks xss a' b a
theorem qi6(ts:af)(a:Int)(ha:a∈ts):∀(es:ae),∃xs,Xc ts LK a=some xs/\∀c,c∈xs↔((a,c)∈es\/(c,a)∈es):=by
 intro es;have key:∀(post pre:ae)(T:bP)(xs:af),Xc ts T a=some xs->(∀c,c∈xs↔((a,c)∈pre\/(c,a)∈pre))->∃xs',Xc ts (post.foldl Ro T) a=some xs'/\∀c,c∈xs'↔((a,c)∈pre++post\/(c,a)∈pre++post):=by
  intro post
  induction post with
  | nil=>intro pre T xs h1 h2;exact⟨xs,h1,by rw[zx];exact h2⟩
  | cons e post ih=>
   intro pre T xs h1 h2;have h3:Xc ts (Xx ts T e) a=some (let ys:=if a=e.1 then xs++[e.2]else xs;if a=e.2 then ys++[e.1]else ys):=by
    unfold Xx;rw[q67,q67,h1];rfl
   obtain⟨xs',g1,g2⟩:=ih (pre++[e]) (Xx ts T e) _ h3 (λc=>by
    obtain⟨e1,e2⟩:=e;have m:∀x y:Int,(x,y)∈pre++[(e1,e2)]↔(x,y)∈pre\/(x=e1/\y=e2):=λx y=>by simp
    rw[m,m]
    by_cases y1:a=e1 <;> by_cases y2:a=e2 <;> simp[y1,y2,h2] <;> (try subst y1) <;> (try subst y2) <;> simp_all <;> grind)
   refine⟨xs',g1,λc=>?_⟩;rw[g2,zM];rfl
 have h0:Xc ts M1 a=some []:=by
  have:(Xc ts M1 a).isSome=true:=by rw[q3E (by rw[zB]),vT ha]
  obtain⟨x,hx⟩:=yz.mp this;rw[q6u]at hx ⊢;obtain⟨y,hy,e⟩:=wX.mp hx;rw[hy];rfl
 obtain⟨xs',g1,g2⟩:=key es [] _ [] h0 (by simp);exact⟨xs',g1,by simpa using g2⟩
structure Ok (ts:List Int) (es:List (Int×Int)):Prop where
 nd:ts.Nodup
 inn:∀e∈es,e.1∈ts/\e.2∈ts
 l1:ts.length<64
 l2:es.length<=1000
noncomputable def nbD(ts:af)(es:ae):List D:=(nbT ts es).map λxs=>.lst ig
theorem q8k{ts:af}{es:ae}(h:EH):q1I TB=↥bL:=by
 have hl:=h.l1;have e:nbM jn LN=some bL:=by
  unfold nbM;rw[q0J,q3W];exact vH ⟨h.nd,h.inn,∅,h.l2⟩
 show outM ((nbM jn LN).map _)=_;rw[e];rfl
theorem Rch.mem{ts:af}{es:ae}(h:EH){a c:Int}(ha:a∈ts)(r:adk):c∈ts :=
 r.inv (λx=>x∈ts) ha λb c _ e=>by
  rcases e with e|e
  ·exact(h.inn _ e).2
  ·exact(h.inn _ e).1
noncomputable def WW(F:af):List D:=F.map λ_=>.bl true
theorem q8e(F:af):F.length=(WW F).length:=by unfold WW;rw[zB]
theorem qbL{F:af}{c:Int}(h:c∉F):Wd F c=F++[c]/\putA F (WW F) c cU=WW (F++[c]):=by
 unfold Wd putA WW;rw[vJ h,vJ h,zW];exact dg
theorem q1f:∀{F ts:af},F.Nodup->(∀c∈F,c∈ts)->F.length<=ts.length
 | [],_,_,_=>zn _
 | a::r,ts,hn,hs=>by
  obtain⟨h1,h2⟩:=yx.mp hn;have ha:=hs a zF;have:=q1f (F:=r) (ts:=ts.erase a) h2 λc hc=>(List.mem_erase_of_ne (show c≠a from λz=>h1 (by rw[<- z];exact hc))).mpr (hs c acr);rw[List.length_erase_of_mem ha]at this;have hp:0<ts.length:=List.length_pos_of_mem ha;rw[zJ];omega
structure GI (ts:List Int) (es:List (Int×Int)) (a:Int) (F Wt:List Int):Prop where
 nd:F.Nodup
 st:a∈F
 wl:Wt.length<=F.length
 w:∀c∈Wt,c∈F
 r:∀c∈F,Rch es a c
 cl:∀b∈F,b∉Wt->∀c,((b,c)∈es\/(c,b)∈es)->c∈F
theorem qar{ts:af}{es:ae}(h:EH){a:Int}(ha:a∈ts):
  ∃F:List Int,q1e [cB,bL]=some (.fr oM)/\F.Nodup/\∀c,c∈F↔Rch es a c:=by
 unfold q1e q4m;simp_arith[qV];have hl1:=h.l1;obtain⟨ω',e,F,x4,x5,rfl,gi⟩:=qiu (fc:=q2l) (fb:=q3V) (n:=1000000)
  (λω=>∃(F Wt:af) (x4 x5:dh),ω=[↥cB,↥bL,ID,some (.ow (Wt.map D.int)),x4,x5]/\GI ts es a F Wt)
  (λω=>match ω with
   | [_,_,some (.od F _),some (.ow w),_,_]=>SX+w.length
   | _=>0)
  (λω=>∃(F:af) (x4 x5:dh),ω=[↥cB,↥bL,ID,oO,x4,x5]/\GI ts es a F [])
  (λω ⟨F,Wt,x4,x5,hω,gi⟩ hf=>by
   subst hω;unfold q2l at hf;simp -implicitDefEqProofs only[q8T,q8F,qbz,zCp,eq_self,Ya,Zt,Zu,reduceCtorEq,qb1,qdG,qeu,qbi,e_wd,qd5,e_wz,qbA,qe8,qbT,qh1,qel,qeD,qgE,qgv,qgZ,qdJ,qh5,qbW,qaY,qgU,qh0,qcQ,qgM,qgN,qgz,qbq,qaV,qV,qby,qbG,qgG,qgP,qb5,qaJ,e_if,qen,qdT,qgB,qbo,qbg,qdN,qbJ,qgC,zCD,qgw,q9K,q5e,qaU,qaM,qh4,e_fs,qgn,e_ag,e_gn,e_gt,e_gc,e_g0,qgA,qaW,qbr,e_c,e_e,e_ed,e_d,qaX,qaZ,e_v,qaN,qbf,qbK,e_op,e_o2,qdk,e_cl,qc2,qc3,e_ac,e_ca,e_an,qgF,qgO,qgq,e_bl,qgr,e_sl,e_po,e_pa,e_ap,qgR,qeG,qdr,qgx,q8b,q81,e_t,e_tr,qeQ,e_ta,qgL,qgW,e_to,qgJ,qe6,e_tn,qeF,qb9,q8J,qdj,e_va,qgH,qeC,qdR,qdC,qh2,qdo,WZ,qgT,e_ng,qbC,qbh,qbe,q9T,qbU,qd9,qdm,qbR,qee,qdt,qea,qb8,qc0,qgX,qh3,qgV,at0,at1,at2,q7b,q7n,zCU,entry,yW,xH,zJ,wF,zB,zZ,yr,ZU,yT,yU,wR,YA,YB,xV,wC,Nat.reduceSub,Nat.reduceAdd,Nat.reduceLT,Int.reduceLT,Int.reduceLE,Int.reduceSub,Int.reduceAdd,Int.reduceMul,Int.reduceMod,Int.reduceDiv,Int.reduceNeg,Int.reducePow,Int.reduceBEq,Yh,↓reduceIte,Z1,Yv,w8,ZO,ZA,YL,Z0,Bool.or_true,wq,Yr,xZ,beq_self_eq_true,yG]at hf;cases Wt with
   | nil=>exact⟨F,x4,x5,rfl,gi⟩
   | cons w r=>cases hf)
  (λω Z_=>by
   obtain⟨F,Wt,x4,x5,hω,gi⟩:=Z_;subst hω;refine⟨!Wt.isEmpty,?_,λhk=>?_⟩
   ·unfold q2l
    simp_arith[qV];cases Wt <;> rfl
   ·obtain⟨Wr,here,rfl⟩:∃Wr here,Wt=Wr++[here]:=by
     cases Wt with
     | nil=>cases hk
     | cons w r=>exact⟨(w::r).dropLast,(w::r).getLast (by simp),(wy _).symm⟩
    have hF:here∈F:=gi.w here (by simp);have hts:here∈ts:=(gi.r here hF).mem h ha;obtain⟨xs,v1,v2⟩:=qi6 ts here hts es;have vd:Xc ts (nbD ts es) here=some (.lst ig):=by unfold nbD;rw[q6u,v1];rfl
    have ew:(Wr++[here]).map D.int=Wr.map D.int++[D.int here]:=by rw[zW];rfl
    have ffl:=q1f gi.nd λc hc=>(gi.r c hc).mem h ha;unfold q3V;rw[ew];simp_arith[qhj,vd];obtain⟨ω',e,F',W',x5',rfl,i1,i2,i3,i4,i5,i6,i7,i8⟩:=q0a (g:=gN 5) (b:=q3Y) D.int xs
     (λpre ω=>∃(F' W':af) (x5:dh),ω=[↥cB,↥bL,some (.od F' (WW F')),some (.ow (W'.map D.int)),↥(.int here),x5]/\F'.Nodup/\(∀c∈F,c∈F')/\(∀c∈Wr,c∈W')/\(∀c∈W',c∈F')/\(∀c∈F',Rch es a c)/\(∀c∈F',c∈F\/c∈W')/\(∀c∈pre,c∈F')/\F'.length+Wr.length=F.length+W'.length)
     (λpre c post ω hd Z_=>by
      obtain⟨F',W',x5,hω,i1,i2,i3,i4,i5,i6,i7,i8⟩:=Z_;subst hω;refine dv;have hcx:c∈xs:=by rw[hd];simp
      have hcr:Rch es a c:=(gi.r here hF).step ((v2 c).mp hcx);have fl:=q1f i1 λc hc=>(i5 c hc).mem h ha;have hs:(Xc F' (WW F') c).isSome=decide (c∈F'):=q3E (q8e F');unfold q3Y
      by_cases hc:c∈F'
      ·simp_arith[hs,hc,decide_true]
       exact⟨F',W',_,rfl,i1,i2,i3,i4,i5,i6,λx hx=>(by rcases zK.mp hx with y|y;exact i7 x y;cases zR.mp y;exact hc),i8⟩
      ·obtain⟨p1,p2⟩:=qbL hc
       have hwl:(W'.map D.int).length<1000000:=by
        rw[zB];have:=gi.wl;rw[zD,zT]at this;omega
       simp_arith[hs,hc,decide_false,q48 (show F'.length<1000000 by omega),p1,p2,zCD hwl];refine⟨F'++[c],W'++[c],_,by rw[zW];rfl,?_,λx hx=>zV _ (i2 x hx),λx hx=>zV _ (i3 x hx),λx hx=>?_,λx hx=>?_,λx hx=>?_,λx hx=>?_,by rw[zD,zD,zT];omega⟩
       ·rw[yl]
        exact⟨i1,by simp,λx hx y hy z=>by cases zR.mp hy;exact hc (z▸hx)⟩
       ·rcases zK.mp hx with y|y
        ·exact zV _ (i4 x y)
        ·exact zS _ y
       ·rcases zK.mp hx with y|y
        ·exact i5 x y
        ·cases zR.mp y;exact hcr
       ·rcases zK.mp hx with y|y
        ·exact(i6 x y).elim .inl λz=>.inr SM
        ·exact .inr (zS _ y)
       ·rcases zK.mp hx with y|y
        ·exact zV _ (i7 x y)
        ·exact zS _ y)
     (ω:=[↥cB,↥bL,ID,some (.ow (Wr.map D.int)),↥(.int here),x5])
     ⟨F,Wr,x5,rfl,gi.nd,λc hc=>hc,λc hc=>hc,λc hc=>gi.w c (zV _ hc),gi.r,λc hc=>.inl hc,λc hc=>(by cases hc),rfl⟩
    have fl':=q1f i1 λc hc=>(i5 c hc).mem h ha;simp_arith[e];have wl0:=gi.wl;rw[zD,zT]at wl0;refine⟨⟨F',W',_,_,rfl,i1,i2 a gi.st,∅,i4,i5,λb hb hw c hc=>?_⟩,?_⟩
    ·rcases i6 b hb with y|y
     ·by_cases z:b=here
      ·subst z
       exact i7 c ((v2 c).mpr hc)
      ·exact i2 c (gi.cl b y (λm=>by rcases zK.mp m with m|m;exact hw (i3 b m);exact z (zR.mp m)) c hc)
     ·exact vP y hw
    ·show (ts.length-F'.length)+(W'.map D.int).length<SX+(Wr.map D.int++[D.int here]).length
     rw[zB,zD,zB,zT];omega)
  (ω:=[↥cB,↥bL,some (.od [a] [cU]),some (.ow [cB]),none,none])
  ⟨[a],[a],none,none,rfl,by simp,by simp,zL _,λc hc=>hc,λc hc=>by cases zR.mp hc;exact .refl,λb hb hw=>vP hb hw⟩
  (by show (ts.length-1)+1<1000000;omega)
 have fl:=q1f gi.nd λc hc=>(gi.r c hc).mem h ha;simp_arith[e,qfA (show F.length<64 by omega)];exact⟨F,rfl,gi.nd,λc=>⟨gi.r c,λr=>r.inv (λx=>x∈F) gi.st λb c hb hc=>gi.cl b hb (by simp) c hc⟩⟩
noncomputable def gD(g:af):D:=.lst (g.map D.int)
structure Cls (ts:List Int) (es:List (Int×Int)) (g:List Int) (a:Int):Prop where
 inn:a∈ts
 up:g.Pairwise (· < ·)
 mem:∀c,c∈g↔Rch es a c
 hd:g.head?=some a
theorem qhK{F:af}(h:F.Nodup):(XZ F).Pairwise (· < ·):=by
 have h1:(XZ F).Nodup:=(qz (l:=F)).nodup_iff.mpr h;have h2:=q0E (l:=F);have:=List.Pairwise.and h2 h1;exact this.imp λ{a b} h=>(by have h1:=h.1;have h2:=h.2;omega)
theorem qjB{ts:af}{es:ae}{F:af}{a:Int}(ha:a∈ts)(hn:F.Nodup)(hm:∀c,c∈F↔Rch es a c)(least:∀c∈F,a<=c):Cls ts es (XZ F) a:=by
 have pm:=qz (l:=F);have up:=qhK hn;refine⟨ha,up,λc=>by rw[pm.mem_iff,hm],?_⟩;have haF:a∈XZ F:=pm.mem_iff.mpr ((hm a).mpr .refl);cases q:XZ F with
 | nil=>rw[q]at haF;cases haF
 | cons b r=>
  rw[q]at haF up;have hb:a<=b:=least b (pm.mem_iff.mp (by rw[q];exact zF));rcases zG.mp haF with rfl|hr
  ·rfl
  ·have:=(za.mp up).1 a hr
   omega
structure GS (ts:List Int) (es:List (Int×Int)) (gs:List (List Int)) (hs:List Int):Prop where
 len:gs.length=hs.length
 cls:∀(j:Nat)g a,gs[j]?=some g->hs[j]?=some a->Cls ts es g a
 up:hs.Pairwise (· < ·)
theorem GS.snoc{ts:af}{es:ae}{gs:bP}{hs:af}(h:nX){g:af}{a:Int}(c:Rv)(hu:∀b∈hs,b<a):GS ts es (gs++[g]) (hs++[a]):=by
 refine⟨by rw[zD,zD,h.len];rfl,λj g' a' e1 e2=>?_,?_⟩
 ·rcases zz j gs.length with z|z
  ·rw[ze z]at e1
   rw[ze (by rw[<- h.len];exact z)]at e2;exact h.cls j g' a' e1 e2
  ·rw[zb z]at e1
   rw[zb (by rw[<- h.len];exact z),<- h.len]at e2;cases hj:j-gs.length with
   | zero=>rw[hj]at e1 e2;cases e1;cases e2;exact c
   | succ n=>rw[hj]at e1;cases e1
 ·rw[zc]
  exact⟨h.up,by simp,λb hb c hc=>by cases zR.mp hc;exact hu b hb⟩
theorem GS.one{ts:af}{es:ae}{gs:bP}{hs:af}(h:nX){g:af}(hg:g∈gs):∃a∈hs,Cls ts es g a:=by
 obtain⟨j,hj,rfl⟩:=zY.mp hg;have hj2:j<hs.length:=by rw[<- h.len];exact hj
 exact⟨hs[j],yZ _,h.cls j _ _ B9 Gv⟩
theorem q9G{ts:af}{es:ae}(h:EH)(w0 w1:dh):∃gs hs x3 x5 x6 x7,zAk R3 q2o ((XZ ts).map D.int) J7=some (.nx,[w0,w1,↥bL,x3,Q0,x5,x6,x7])/\GS ts es gs hs/\(∀t∈ts,∃g∈gs,t∈g)/\gs.length<=ts.length:=by
 have hl1:=h.l1;have sp:=qz (l:=ts);have sl:=q0E (l:=ts);obtain⟨ω',e,gs,hs,Gd,x5,x6,x7,rfl,i1,i2,i3,i4,i5,i6⟩:=q0a (g:=gN 5) (b:=q2o) D.int (XZ ts)
  (λpre ω=>∃(gs:bP) (hs Gd:af) (x5 x6 x7:dh),ω=[w0,w1,↥bL,UJ,Q0,x5,x6,x7]/\GS ts es gs hs/\Gd.Nodup/\(∀c,c∈Gd↔∃g∈gs,c∈g)/\(∀t∈pre,t∈Gd)/\(∀a∈hs,a∈pre)/\gs.length<=pre.length)
  (λpre t post ω hd Z_=>by
   obtain⟨gs,hs,Gd,x5,x6,x7,hω,i1,i2,i3,i4,i5,i6⟩:=Z_;subst hω;refine dv;have ht:t∈ts:=sp.mem_iff.mp (by rw[hd];simp);have hs1:(Xc Gd (WW Gd) t).isSome=decide (t∈Gd):=q3E (q8e Gd);have gts:∀c∈Gd,c∈ts:=λc hc=>by
    obtain⟨g,hg,hcg⟩:=(i3 c).mp hc;obtain⟨a,_,cl⟩:=i1.one hg;exact((cl.mem c).mp hcg).mem h cl.inn
   have plen:pre.length<=ts.length:=by rw[<- sp.length_eq,hd,zD];omega
   unfold q2o
   by_cases hc:t∈Gd
   ·simp_arith[hs1,hc,decide_true]
    exact⟨gs,hs,Gd,_,_,_,rfl,i1,i2,i3,λx hx=>(by rcases zK.mp hx with y|y;exact i4 x y;cases zR.mp y;exact hc),λa ha=>zV _ (i5 a ha),by rw[zD];omega⟩
   ·obtain⟨F,f1,f2,f3⟩:=qar h ht
    have least:∀c∈F,t<=c:=λc hcF=>by
     rcases Int.lt_or_le c t with z|z
     ·exfalso
      have rc:=(f3 c).mp hcF;have hcs:c∈XZ ts:=sp.mem_iff.mpr (rc.mem h ht);rw[hd]at hcs sl;have hcp:c∈pre:=by
       rcases zK.mp hcs with y|y
       ·exact y
       ·rcases zG.mp y with rfl|y
        ·omega
        ·have:=(za.mp (zc.mp sl).2.1).1 c y
         omega
      obtain⟨g,hg,hcg⟩:=(i3 c).mp (i4 c hcp);obtain⟨a,_,cl⟩:=i1.one hg;exact hc ((i3 t).mpr ⟨g,hg,(cl.mem t).mpr (((cl.mem c).mp hcg).trans rc.symm)⟩)
     ·exact z
    have cl:=qjB ht f2 f3 least;have dis:∀c∈XZ F,c∉Gd:=λc hcg hcG=>by
     obtain⟨g,hg,hcg'⟩:=(i3 c).mp hcG;obtain⟨a,_,cl'⟩:=i1.one hg;exact hc ((i3 t).mpr ⟨g,hg,(cl'.mem t).mpr (((cl'.mem c).mp hcg').trans ((cl.mem c).mp hcg).symm)⟩)
    have hgl:(gs.map gD).length<1000000:=by rw[zB];omega
    simp_arith[hs1,hc,decide_false,f1,zCD hgl];obtain⟨ω',e,x7',rfl⟩:=q0a (g:=gN 7) (b:=q5r) D.int (XZ F)
     (λpre' ω=>∃(x7:dh),ω=[w0,w1,↥bL,some (.od (Gd++pre') (WW (Gd++pre'))),ND,GL,↥oy,x7])
     (λpre' c post' ω hd' Z_=>by
      obtain⟨x7,hω⟩:=Z_;subst hω;refine dv;have ndF:(XZ F).Nodup:=(qz (l:=F)).nodup_iff.mpr f2;have hnew:c∉Gd++pre':=λm=>by
       rcases zK.mp m with y|y
       ·exact dis c (by rw[hd'];simp) y
       ·rw[hd',yl]at ndF
        exact ndF.2.2 c y c zF rfl
      obtain⟨p1,p2⟩:=qbL hnew;have hlen:(Gd++pre').length<1000000:=by
       have z1:=q1f i2 gts;have z2:pre'.length<=ts.length:=by
        have a1:(XZ F).length<=ts.length:=by
         rw[(qz (l:=F)).length_eq];exact q1f f2 λc hc=>((f3 c).mp hc).mem h ht
        rw[hd',zD]at a1;omega
       rw[zD];omega
      unfold q5r;simp_arith[q48 hlen,p1,p2,zM];exact bD)
     (ω:=[w0,w1,↥bL,UJ,ND,GL,↥oy,x7]) ⟨x7,by rw[zx]⟩
    simp_arith[e];refine⟨gs++[XZ F],hs++[t],Gd++XZ F,_,_,_,by rw[zW];rfl,i1.snoc cl λb hb=>?_,?_,λc=>?_,λx hx=>?_,λa ha=>?_,by rw[zD,zD,zT,zT];omega⟩
    ·have hbp:=i5 b hb
     rw[hd]at sl;have le:b<=t:=(zc.mp sl).2.2 b hbp t zF;have ne:b≠t:=λz=>hc (i4 t (z▸hbp));omega
    ·rw[yl]
     exact⟨i2,(qz (l:=F)).nodup_iff.mpr f2,λx hx y hy z=>dis y hy (z▸hx)⟩
    ·rw[zK,i3]
     constructor
     ·rintro(⟨g,hg,hcg⟩|hcF)
      ·exact⟨g,zV _ hg,hcg⟩
      ·exact⟨_,aaI,hcF⟩
     ·rintro⟨g,hg,hcg⟩
      rcases zK.mp hg with y|y
      ·exact .inl ⟨g,y,hcg⟩
      ·cases zR.mp y;exact .inr hcg
    ·rcases zK.mp hx with y|y
     ·exact zV _ (i4 x y)
     ·cases zR.mp y
      exact zS _ ((cl.mem t).mpr .refl)
    ·rcases zK.mp ha with y|y
     ·exact zV _ (i5 a y)
     ·exact zS _ y)
  (ω:=J7)
  ⟨[],[],[],none,none,none,rfl,⟨rfl,λj g a e=>(by simp at e),.nil⟩,xQ,by simp,by simp,by simp,bX⟩
 refine⟨gs,hs,_,_,_,_,e,i1,λt ht=>?_,by rw[<- sp.length_eq];exact i6⟩;exact(i3 t).mp (i4 t (sp.mem_iff.mpr ht))
theorem q83{ts:af}{es:ae}(h:EH):∃gs hs,q1r TB=some (.fr l7)/\GS ts es gs hs/\(∀t∈ts,∃g∈gs,t∈g)/\gs.length<=ts.length:=by
 unfold q1r q68;have hl1:=h.l1;obtain⟨gs,hs,x3,x5,x6,x7,e,i1,i2,i3⟩:=q9G h ↥(.lst jn) ↥aT;simp_arith[q8k h,q7t hl1,e];exact⟨gs,hs,rfl,i1,i2,i3⟩
noncomputable def Wq:D->Bool
 | .int _=>true
 | _=>false
noncomputable def nsD:D->Bool
 | .scr _=>false
 | .exc _=>false
 | .dic _ _=>false
 | _=>true
noncomputable def noScr:D->Bool
 | .scr _=>false
 | .exc _=>false
 | .dic _ _=>false
 | .tup [a,b]=>nsD a&&nsD b
 | _=>true
noncomputable def isBoxL:List D->Bool
 | []=>false
 | [_]=>false
 | [a,b]=>Wq a&&Wq b
 | _::_::_::_=>false
noncomputable def zB1:D->Bool
 | .tup ds=>isBoxL ds
 | _=>false
theorem q3u{d:D}(h:nsD d=true):qU [d]=↥(.bl (Wq d)):=by
 cases d <;> first|rfl|cases h
theorem qjE{d:D}(h:noScr d=true):q3e [d]=↥(.bl (zB1 d)):=by
 unfold q3e q6c
 match d,h with
 | .non,_=>rfl
 | .bl _,_=>rfl
 | .int _,_=>rfl
 | .str _,_=>rfl
 | .lst _,_=>rfl
 | .tup [],_=>rfl
 | .tup [_],_=>simp_arith[qV];rfl
 | .tup [a,b],h=>
  have h':=wv.mp (show (_&&_)=true from h);have ha:=q3u h'.1;have hb:=q3u h'.2;simp_arith[ha,hb];simp_arith[show (((0+1+1:Nat):Int)==2)=true from rfl,ha,hb];cases a <;> cases b <;> rfl
 | .tup (a::b::c::r),_=>
  have hn:(((a::b::c::r).length:Int)==2)=false:=by
   simp only[zJ,beq_eq_false_iff_ne,ne_eq];omega
  simp only[zJ]at hn;simp_arith[hn];rfl
theorem q9V:∀(q:D->Bool)(ds:aY),allB Pr=some (ds.all q)
 | _,[]=>rfl
 | q,d::ds=>by
  show (allB Pr).map _=_;rw[q9V q ds];rfl
theorem qef{h l:D}{ds:aY}(hh:nsD h=true)(hl:nsD l=true)(hd:∀d∈ds,noScr d=true)(hlen:abP):
  q0R [h,l,fQ]=↥(.bl (Wq h&&(Wq l&&ds.all zB1))):=by
 unfold q0R q3J;have e1:=q3u hh;have e2:=q3u hl;simp_arith[e1,e2,WZ hlen];cases Wq h <;> cases Wq l <;> simp_arith[e2,WZ hlen] <;> first|rfl|skip
 rw[q3G (λd=>D.bl (zB1 d))]
 ·simp_arith[zAm,q9V]
 ·intro d hd'
  unfold q5a;simp_arith[inW,qjE (hd d hd')]
noncomputable def flat(bs:ae):List Int:=bs.flatMap λp=>[p.1,p.2]
noncomputable def plc(h l:Int)(bs:ae):List Int:=h::l::flat bs
theorem qfm(bs:ae)(p:bo):flat (bs++[p])=flat bs++[p.1,p.2]:=by simp[flat]
theorem q4J(bs:ae):(flat bs).length=2*bs.length:=by
 induction bs with
 | nil=>rfl
 | cons p r ih=>simp[flat]at ih ⊢;omega
theorem qio(h l:Int)(bs:ae)(p:bo):plc h l (bs++[p])=plc h l bs++[p.1,p.2]:=by unfold plc;rw[qfm];rfl
theorem zBS(x:Int):nsD Bh=true:=rfl
theorem qeS(p:bo):zB1 (XJ p)=true:=rfl
theorem qcK(bs:ae):(bs.map XJ).all zB1=true:=by
 rw[List.all_map];exact wM.mpr λp _=>qeS p
theorem qcP{h l:Int}{bs:ae}(hb:Fj):q0R c9=↥cU:=by
 have:=qef (h:=.int h) (l:=.int l) (ds:=bs.map XJ) (zBS h) (zBS l) (λd hd=>by
  obtain⟨p,_,rfl⟩:=zi.mp hd;rfl) (by rw[zB];omega)
 rw[qcK]at this;exact this
theorem q91{h l:Int}{bs:ae}(hb:Fj):q06 c9=some Ou:=by
 unfold q06 q2h;simp_arith[qcP hb]
theorem q3x{h l:Int}{bs:ae}(hb:bM):q0h c9=some (.fr gm):=by
 unfold q0h q7o;simp_arith[q91 (show bs.length<=1000 by omega)];obtain⟨ω',e,x4,rfl⟩:=q0a (g:=gN 4) (b:=q5Y) XJ bs
  (λpre ω=>∃x4,ω=[↥ib,↥jJ,↥aE,IC,x4])
  (λpre p post ω hd Z_=>by
   obtain⟨x4,hω⟩:=Z_;subst hω;refine dv;unfold q5Y;have hl:(plc h l pre).length<=1000:=by
    have:=uB wD hd;rw[zD,zJ]at this;show (flat pre).length+1+1<=1000;rw[q4J];omega
   have e1:=q9K (i:=3) (ω:=[↥ib,↥jJ,↥aE,IC,↥(XJ p)]) (ds:=(plc h l pre).map D.int) (ds':=IM) (by rw[zB,zJ,zT];omega);simp_arith[qV];show zBO (extS 3 _ (some (XJ p)) _) _;rw[show XJ p=D.tup IM from rfl]at e1 ⊢;rw[e1,qio,zW];exact bD)
  (ω:=[↥ib,↥jJ,↥aE,some (.ow [ib,jJ]),none]) GH
 simp_arith[e];have hlen:(plc h l bs).length<64:=by
  show (flat bs).length+1+1<64;rw[q4J];omega
 have:X9 bF [↥ib,↥jJ,↥aE,some (.ow CJ),x4]=some (.fr gm):=by
  show zBB (.lst CJ)=_;show (intsOf CJ).bind _=_;rw[q0J];exact vH (qed hlen)
 simp_arith[this]
noncomputable def Y7(P:af):List bo:=P.zip (P.drop 1)
theorem q0D(P:af):(Y7 P).length=P.length-1:=by
 unfold Y7;rw[xW,yO];omega
theorem qgd{P:af}{i:Nat}(h:Tt):(Y7 P)[i]?=some (P[i],P[i+1]):=by
 unfold Y7;rw[xJ];refine⟨zA ∅,?_⟩;show (P.drop 1)[i]?=some P[i+1];rw[xn,Nat.add_comm 1 i];exact zA h
theorem q84:∀(xs ys:af),ZZ pairD ig Fu=(xs.zip ys).map XJ
 | [],_=>rfl
 | _::_,[]=>rfl
 | x::xs,y::ys=>by
  show _::ZZ pairD ig Fu=_::(xs.zip ys).map XJ;rw[q84 xs ys];rfl
theorem qg2(ds:aY):cutD ds (some 1) none=ds.drop 1:=by
 unfold cutD;have e:HT.sIx ds.length 0 (some 1)=min 1 ds.length:=HT.q7v ds.length 0 1;rw[e,HT.q5T];cases ds with
 | nil=>rfl
 | cons d r=>
  have:min 1 (d::r).length=1:=by rw[zJ];omega
  rw[this];show List.take _ r=r;rw[zJ,Z7,xh]
theorem q23{h l:Int}{bs:ae}(hb:bM):q0O c9=some Ry:=by
 unfold q0O q9D;have hz:Wl [MQ,.lst (cutD gm (some 1) none)]=some Ry:=by
  rw[qg2,<- ZN];show some (R.fr (ZZ pairD _ _))=_;rw[q84];rfl
 simp_arith[q3x hb,qgQ,hz]
structure Stp (P:List Int):Prop where
 ne:P≠[]
 rise:P.Pairwise (· < ·)
 len:P.length<=1000
theorem stp(h l:Int){bs:ae}(hb:bM):Stp Bc:=by
 refine⟨λe=>?_,q0I,?_⟩
 ·have:h∈XU bB:=q1E.mpr (by simp[plc])
  rw[e]at this;simp at this
 ·have:(XU bB).length<=(plc h l bs).length:=q0Y _
  have h2:(plc h l bs).length=2*bs.length+2:=by show (flat bs).length+1+1=_;rw[q4J]
  omega
theorem Stp.lt{P:af}(S:Stp P){i j:Nat}(hi:i<P.length)(hj:j<P.length)(h:i<j):P[i]<P[j]:=yY.mp S.rise i j hi hj h
theorem Stp.le{P:af}(S:Stp P){i j:Nat}(hi:i<P.length)(hj:j<P.length)(h:i<=j):P[i]<=P[j]:=by
 rcases zz i j with z|z
 ·exact yg (S.lt hi hj z)
 ·have:i=j:=∅
  subst this;exact yE _
theorem Stp.amid{P:af}(S:Stp P){i:Nat}(h:Tt){x:Int}(hx:x∈P):x<=P[i]\/P[i+1]<=x:=by
 obtain⟨j,hj,rfl⟩:=zY.mp hx;rcases zz i j with z|z
 ·right;exact S.le h hj z
 ·left;exact S.le hj ∅ z
theorem q41(a b:Int):XJ (a,b)=.tup [cB,eu]:=rfl
noncomputable def over(s g:Int)(q:bo):Bool:=decide (s<=q.1)&&decide (q.2<=g)
theorem q9w(s g a b:Int):q0A [pi,.int g,PX]=↥(.bl (over s g (a,b))):=by
 unfold q0A q2Z over;simp_arith[qV]
noncomputable def rts(bs:ae)(q:bo):Int:=((bs.filter λp=>over p.1 p.2 q).length:Nat)
noncomputable def lfs(bs:ae)(q:bo):Int:=((bs.filter λp=>over p.2 p.1 q).length:Nat)
noncomputable def onP(f:B0):D->Bool
 | .tup [.int a,.int b]=>f a b
 | _=>false
theorem q8f(f:B0)(bs:ae):((bs.map XJ).filter (onP f)).map (λd=>d)=(bs.filter λp=>f p.1 p.2).map XJ:=by
 rw[List.map_id',Yi];rfl
theorem q2T{bs:ae}{q:bo}(hb:Fj):q0C [aE,Qp]=↥mL:=by
 unfold q0C q5q;have hl:(bs.map XJ).length<=1000000:=by rw[zB];omega
 obtain⟨a,b⟩:=q;have c1:X2 iF q4G q4C Ax [none,↥PX]=some ((bs.filter λp=>over p.1 p.2 (a,b)).map XJ):=by
  rw[<- q8f (λs g=>over s g (a,b))];refine q82 (onP λs g=>over s g (a,b)) (λd=>d) Ax λd hd=>?_;obtain⟨⟨s,g⟩,_,rfl⟩:=zi.mp hd;unfold q4G q4C;simp_arith[q41,q9w];exact SA
 have c2:X2 iF q4f q4B Ax [none,↥PX]=some ((bs.filter λp=>over p.2 p.1 (a,b)).map XJ):=by
  rw[<- q8f (λs g=>over g s (a,b))];refine q82 (onP λs g=>over g s (a,b)) (λd=>d) Ax λd hd=>?_;obtain⟨⟨s,g⟩,_,rfl⟩:=zi.mp hd;unfold q4f q4B;simp_arith[q41,q9w];exact SA
 simp_arith[q41,KF,inW,Wa,c1,c2];rfl
noncomputable def XN(h l:Int)(bs:ae)(q:bo):Int:=rts rZ q-lfs rZ q-rts bs q+lfs bs q
theorem qih{h l:Int}{bs:ae}{q:bo}(hb:Fj):q5k [ib,jJ,aE,Qp]=↥B3:=by
 unfold q5k q9a;have e1:=q2T (bs:=rZ) (q:=q) (by show 1<=1000;decide);have e2:=q2T (bs:=bs) (q:=q) hb;rw[zZ,yr,q41]at e1;simp_arith[e1,e2];rfl
theorem q6v{h l:Int}{bs:ae}(hb:bM):q2k c9=some (.fr (((Y7 Bc).map gS).map D.int)):=by
 unfold q2k q7s;have S:=stp h l hb;have hl:((Y7 Bc).map XJ).length<=1000000:=by rw[zB,q0D];have:=S.len;omega
 simp_arith[q23 hb,KF,inW,Wa];rw[q3G (λd=>match d with|.tup [.int a,.int b]=>D.int (XN h l bs (a,b))|d=>d)]
 case h=>
  intro d hd;obtain⟨⟨a,b⟩,_,rfl⟩:=zi.mp hd;unfold q9m;have e:=qih (h:=h) (l:=l) (bs:=bs) (q:=(a,b)) ∅;rw[q41]at e ⊢;simp_arith[e]
 rw[yM,yM];rfl
noncomputable def ov(s g:Int)(q:bo):Int:=if over s g q=true then 1 else if over g s q=true then -1 else 0
theorem q61(f:j9):∀L:List bo,zAV (L.map XJ) Fc=L.map λq=>D.tup [Qp,BM]
 | []=>rfl
 | q::r=>by
  show D.tup [Qp,BM]::zAV (r.map XJ) ((r.map f).map D.int)=_;rw[q61 f r];rfl
noncomputable def snd0:D->Bool
 | .tup [_,.int k]=>!(k==0)
 | _=>false
noncomputable def fst0:D->D
 | .tup [x,_]=>x
 | d=>d
theorem qca(f:j9)(L:ae):X2 Ho q4e q6x MK Hs=some ((L.filter λq=>!(f q==0)).map XJ):=by
 have:=q3C (g:=gT 2 cv) (c:=q4e) (f:=q6x) (λw=>∃a b,w=Bb) snd0 fst0 MK (ω:=Hs) lw (λd hd w Z_=>by
  obtain⟨a,b,hw⟩:=Z_;obtain⟨q,_,rfl⟩:=zi.mp hd;subst hw;refine⟨[↥Qp,↥BM],rfl,lw,?_,Gr⟩;unfold q4e;simp_arith[qV];rfl)
 rw[this,Yi,yM];rfl
theorem q4c{h l:Int}{bs:ae}(hb:bM):q0y c9=some (.fr ((bs++rZ++(Y7 Bc).filter λq=>! fV).map XJ)):=by
 unfold q0y q7l;have S:=stp h l hb;have hg:=q23 (h:=h) (l:=l) hb;have hk:=q6v (h:=h) (l:=l) hb;have hL:(Y7 Bc).length<=1000:=by rw[q0D];have:=S.len;omega
 generalize Y7 Bc=L at hg hk hL ⊢;have hl:(L.map λq=>D.tup [Qp,B3]).length<=1000000:=by rw[zB];omega
 have hf:=yH (λq=>! fV) L;simp_arith[hg,hk,q61,KF,inW,qca gS];have a1:WC aE (.lst Ht)=some (.fr ac1):=q1x (by rw[zB,zT];omega);have a2:WC (.lst ac1) (.lst ((L.filter λq=>! fV).map XJ))=some (.fr (bs.map XJ++Ht++(L.filter λq=>! fV).map XJ)):=q1x (by rw[zD,zB,zB,zT];omega);simp_arith[a1,a2];rw[zW,zW];rfl
theorem q1W{α:Type}{g:FG}{c:FT}{f:FD}(P:pF)(q:α->Bool)(B F:α->D):∀(xs:bH){ω:WSt},P ω ->
  (∀x∈xs,∀ω,P ω->∃w,g (B x) ω=some w/\P w/\c w=some (q x)/\(q x=true->f w=some (F x)))->X2 g c f Vu ω=some Ss
 | [],_,_,_=>rfl
 | x::xs,ω,h,t=>by
  obtain⟨w,h1,h2,h3,h4⟩:=t x zF ω h;have ih:=q1W P q B F xs h2 abp;rw[zZ,X2,h1,yW,h3,yW];cases hq:q x with
  | true=>rw[lg,h4 hq,yW,ih,yu hq];rfl
  | false=>rw[vJ (by decide),ih,yv (by rw[hq];decide)]
theorem q2P{α:Type}{i:Nat}{c:FT}{f:FD}(q:α->Bool)(B F:α->D)(xs:bH){ω:WSt}(h:∀x∈xs,c GM=some (q x)/\(q x=true->f GM=some (F x))):X2 R1 c f Vu ω=some Ss :=
 q1W (g:=gN i) (c:=c) (f:=f) (λw=>∀x,w.set i x=ω.set i x) q B F xs (ω:=ω) Vj λd hd w hw=>
  ⟨w.set i ↥(B d),rfl,λx=>by rw[YJ,hw],by rw[hw];exact(h d hd).1,λz=>by rw[hw];exact(h d hd).2 z⟩
theorem qD{α:Type}{i:Nat}{f:FD}(B F:α->D)(xs:bH){ω:WSt}(h:∀x∈xs,f GM=some (F x)):X2 R1 Xj f Vu ω=some (xs.map F):=by
 have:=q2P (c:=Xj) (i:=i) (f:=f) Cn B F xs (ω:=ω) λx hx=>⟨rfl,λ_=>h x hx⟩;rw[this,Mi]
theorem qd7{α:Type}(f:nj):∀bs:List α,zDF OK=some (bs.map f).sum
 | []=>rfl
 | b::r=>by
  show (zDF (r.map λp=>D.int (f p))).map _=_;rw[qd7 f r];rfl
theorem qdq{α:Type}(f:nj)(bs:bH):bSum [.lst OK]=↥(.int (bs.map f).sum):=by
 show (zDF _).map _=_;rw[qd7];rfl
theorem q8O{α:Type}(q:α->Bool):∀bs:List α,allB (bs.map λp=>D.bl (q p))=some (bs.all q)
 | []=>rfl
 | b::r=>by
  show (allB (r.map λp=>D.bl (q p))).map _=_;rw[q8O q r];rfl
structure Lev (P:List Int) (kn:List (Int×Int)) (r:Int×List (List Int)):Prop where
 ne:∀g∈r.2,g≠[]
 pm:r.2.flatten.Perm P
 tie:∀e∈kn++(Y7 P).filter (λq=>decide (q.2-q.1<r.1)),∃g∈r.2,e.1∈g/\e.2∈g
noncomputable def wgh(a:Int):List cK->Int
 | []=>0
 | r::rs=>Q5*(rW-1)+wgh r.1 rs
def zCq(a:Int):List cK->Prop
 | []=>True
 | r::rs=>a<r.1/\zCq r.1 rs
structure Gap (h l:Int) (bs:List (Int×Int)) (g:Int×Int):Prop where
 lt:g.1<g.2
 h:h<=g.1\/g.2<=h
 l:l<=g.1\/g.2<=l
 b:∀b∈bs,(b.1<=g.1\/g.2<=b.1)/\(b.2<=g.1\/g.2<=b.2)
noncomputable def zAP(c:Int):Int:=if c<0 then -c else c
theorem Cls.low{ts:af}{es:ae}{g:af}{a:Int}(c:Rv):∀x∈g,a<=x:=λx hx=>by
 have h:=c.hd;have u:=c.up;cases g with
 | nil=>cases hx
 | cons b r=>
  cases h;rcases zG.mp hx with rfl|hx
  ·exact yE _
  ·exact yg ((za.mp u).1 x hx)
theorem GS.apart{ts:af}{es:ae}{gs:bP}{hs:af}(h:nX){i j:Nat}{g g':af}{c:Int}(e1:gs[i]?=some g)(e2:gs[j]?=some g')(h1:c∈g)(h2:c∈g'):i=j:=by
 have li:=(zt.mp e1).1;have lj:=(zt.mp e2).1;rw[h.len]at li lj;have c1:=h.cls i g _ e1 (zA li);have c2:=h.cls j g' _ e2 (zA lj);have r1:=(c1.mem c).mp h1;have r2:=(c2.mem c).mp h2;have a1:=c1.low _ ((c1.mem _).mpr (r1.trans r2.symm));have a2:=c2.low _ ((c2.mem _).mpr (r2.trans r1.symm));rcases Nat.lt_trichotomy i j with z|z|z
 ·have:=yY.mp h.up i j li lj z;omega
 ·exact z
 ·have:=yY.mp h.up j i lj li z;omega
theorem qbM:∀{gs:bP},(∀g∈gs,g.Nodup)->(∀(i j:Nat)g g' c,gs[i]?=some g->gs[j]?=some g'->c∈g->c∈g'->i=j)->gs.flatten.Nodup
 | [],_,_=>xQ
 | g::gs,h1,h2=>by
  rw[yB,yl];refine⟨h1 g zF,qbM (λg hg=>h1 g (zH _ hg)) (λi j a b c e1 e2 m1 m2=>?_),λx hx y hy e=>?_⟩
  ·have:=h2 (i+1) (j+1) a b c e1 e2 m1 m2;omega
  ·subst e
   obtain⟨g',hg',hx'⟩:=wm.mp hy;obtain⟨j,hj,rfl⟩:=zY.mp hg';have:=h2 0 (j+1) g _ x rfl (zA hj) hx hx';omega
theorem GS.flat{ts:af}{es:ae}{gs:bP}{hs:af}(ok:EH)(h:nX)(all:∀t∈ts,∃g∈gs,t∈g):gs.flatten.Perm ts:=by
 have nd:gs.flatten.Nodup:=qbM (λg hg=>by
  obtain⟨a,_,c⟩:=h.one hg;exact c.up.imp λ{a b} h e=>∅) λi j g g' c e1 e2 m1 m2=>h.apart e1 e2 m1 m2
 refine(wH nd ok.nd).mpr λx=>⟨λhx=>?_,λhx=>?_⟩
 ·obtain⟨g,hg,hx⟩:=wm.mp hx
  obtain⟨a,_,c⟩:=h.one hg;exact((c.mem x).mp hx).mem ok c.inn
 ·obtain⟨g,hg,hx⟩:=all x hx
  exact wm.mpr ⟨g,hg,hx⟩
theorem qiE{P:af}{es kn:ae}{gs:bP}{hs:af}{t:Int}(ok:Ok P es)(h:GS P es gs hs)(all:∀t∈P,∃g∈gs,t∈g)(sub:∀e∈kn++(Y7 P).filter (λq=>decide Cu),e∈es):Lev P kn (t,gs) where
 ne:=λg hg e=>by
  obtain⟨a,_,c⟩:=h.one hg;have:=c.hd;rw[e]at this;cases this
 pm:=h.flat ok all
 tie:=λe he=>by
  have he:=sub e he;obtain⟨g,hg,h1⟩:=all _ (ok.inn e he).1;obtain⟨a,_,c⟩:=h.one hg;exact⟨g,hg,h1,(c.mem _).mpr (((c.mem _).mp h1).step (.inl he))⟩
noncomputable def nmP:Nat->List af->List kO
 | _,[]=>[]
 | k,g::gs=>(k,g)::nmP (k+1) gs
noncomputable def kkP(ps:TX):List Int:=ps.flatMap (·.2)
noncomputable def vvP(ps:TX):List D:=ps.flatMap λp=>p.2.map λ_=>D.int acK
theorem q5H:∀(k:Nat)(gs:bP),kkP VQ=gs.flatten
 | _,[]=>rfl
 | k,g::gs=>by show g++kkP NL=_;rw[q5H];rfl
theorem qeE:∀ps:List kO,(kkP ps).length=(vvP ps).length
 | []=>rfl
 | p::ps=>by show (p.2++kkP ps).length=((p.2.map λ_=>D.int acK)++vvP ps).length;rw[zD,zD,zB,qeE ps]
theorem qaH{α:Type}(v:α):∀(g:af){x:Int},x∈g->Xc g aen x=some v
 | [],_,h=>by cases h
 | y::g,x,h=>by
  show (if y=x then some v else Xc g aen x)=some v
  by_cases z:y=x
  ·rw[iP]
  ·rw[iw]
   rcases zG.mp h with rfl|h
   ·exact vP rfl z
   ·exact qaH v g h
theorem q8V{α:Type}:∀{a:af}{c:bH}{b:af}{d:bH}{x:Int},a.length=c.length->x∈a->Xc LP (c++d) x=Xc a c x
 | [],_,_,_,_,_,h=>by cases h
 | _::_,[],_,_,_,h,_=>by simp at h
 | y::a,v::c,b,d,x,hl,h=>by
  show (if y=x then some v else Xc LP (c++d) x)=if y=x then some v else Xc a c x
  by_cases z:y=x
  ·rw[iP,iP]
  ·rw[iw,iw]
   rcases zG.mp h with rfl|h
   ·exact vP rfl z
   ·exact q8V ⇑hl h
theorem q7T{α:Type}:∀{a:af}{c:bH}{b:af}{d:bH}{x:Int},a.length=c.length->x∉a->Xc LP (c++d) x=Xc b d x
 | [],[],_,_,_,_,_=>rfl
 | [],_::_,_,_,_,h,_=>by simp at h
 | _::_,[],_,_,_,h,_=>by simp at h
 | y::a,v::c,b,d,x,hl,h=>by
  show (if y=x then some v else Xc LP (c++d) x)=_;rw[vJ (λz=>h (by rw[z];exact zF))];exact q7T ⇑hl λz=>h (zH _ z)
theorem q52:∀{gs:bP}{k:Nat},gs.flatten.Nodup->∀{j:Nat}{g:af}{x:Int},gs[j]?=some g->x∈g->Xc (kkP VQ) (vvP VQ) x=some (.int ((k+j:Nat):Int))
 | [],k,_,j,g,x,h,_=>by cases h
 | g'::gs,k,hn,j,g,x,h,hx=>by
  rw[yB,yl]at hn;show Xc (g'++kkP NL) ((g'.map λ_=>D.int Aw)++vvP NL) x=_;cases j with
  | zero=>cases h;rw[q8V (by rw[zB]) hx,qaH _ _ hx];rfl
  | succ j=>
   have hg:gs[j]?=some g:=h;have hf:x∈gs.flatten:=wm.mpr ⟨g,zg hg,hx⟩;rw[q7T (by rw[zB]) (λz=>hn.2.2 x z x hf rfl),q52 hn.2.1 hg hx,show k+1+j=k+(j+1) by omega]
theorem qfD{gs:bP}(hn:gs.flatten.Nodup){g:af}(hg:g∈gs){p q:Int}(hp:p∈g)(hq:q∈g):∃i:Int,Xc Gy Gx p=some iR/\Xc Gy Gx q=some iR:=by
 obtain⟨k,hk,rfl⟩:=zY.mp hg;exact⟨_,q52 hn (zA hk) hp,q52 hn (zA hk) hq⟩
theorem qbN{α:Type}{ks:af}{xs:bH}{k:Int}(y:α)(h:k∉ks):Wd ks k=ks++[k]/\putA ks xs k y=xs++[y]:=by
 unfold Wd putA;rw[vJ h,vJ h];exact dg
noncomputable def WU(r:cK):D:=.tup [ab9,.lst (r.2.map gD)]
noncomputable def WS(bs:ae)(q:bo):D:=.tup [oJ,DG,.int Q4,.int Q8]
noncomputable def edD(q:bo):D:=.tup [oJ,DG,E8]
noncomputable def Pz(h l:Int)(bs:ae):List Int:=XU bB
noncomputable def Kn(h l:Int)(bs:ae):List bo:=bs++rZ++(Y7 aA).filter λq=>! fV
theorem q3z{h l:Int}{bs:ae}(hb:bM):(Y7 aA).length<=1000:=by
 rw[q0D];have:=(stp h l hb).len;unfold Pz;omega
theorem q5G(h l:Int)(bs:ae):(Pz h l bs).Pairwise (· < ·):=q0I
theorem q5n{h l:Int}{bs:ae}(hb:bM):(Pz h l bs).length<64:=by
 have h1:(Pz h l bs).length<=(plc h l bs).length:=q0Y _;have h2:(plc h l bs).length=2*bs.length+2:=by show (flat bs).length+1+1=_;rw[q4J]
 omega
theorem q32{h l:Int}{bs:ae}(hb:bM):q03 c9=some (.fr mM):=by
 unfold q03 q3L;have hl:((Y7 aA).map XJ).length<=1000000:=by rw[zB];have:=q3z (h:=h) (l:=l) hb;omega
 have cm:=qD (i:=0) (f:=q3A) XJ Oh Ay (ω:=[none,↥aE]) (λq hq=>by
  have c:=q2T (bs:=bs) (q:=q) ∅;have ha:WC Qp mL=↥Ee:=rfl;unfold q3A;simp_arith[c,ha])
 have g:=q23 (h:=h) (l:=l) hb;rw[show XU bB=Pz h l bs from rfl]at g;simp_arith[g,KF,inW,Wa,cm]
theorem qbs(n:Int):qU [Io]=↥cU:=q3u (d:=.int n) rfl
theorem q6T(ns:af):X2 iF Xj q3v gG KD=some (ns.map λ_=>D.bl true):=qD D.int rR ns λn _=>by
 unfold q3v;simp_arith[qbs]
theorem q5K{α:Type}(xs:bH):allB (xs.map λ_=>D.bl true)=some true:=by
 rw[q8O Cn xs];simp
theorem qg9{ns:af}(h:ns.length<=1000):q05 [.tup gG]=↥cU:=by
 unfold q05 q2n;have hl:(ns.map D.int).length<=1000000:=by rw[zB];omega
 simp_arith[KF,inW,Wa,q6T,zAm,q5K]
theorem qgm{ns:af}(h:ns.length<=1000):q05 [Sk]=↥cU:=by
 unfold q05 q2n;have hl:(ns.map D.int).length<=1000000:=by rw[zB];omega
 simp_arith[KF,inW,Wa,q6T,zAm,q5K]
theorem qb7(bs:ae)(q:bo):(WS bs q).py.canLay0=true/\(WS bs q).py.depth<=2:=⟨rfl,by show 1<=2;decide⟩
theorem qfp(bs gs:ae):shp E5=true:=q7k 2 (by decide) λd hd=>by
 obtain⟨q,_,rfl⟩:=zi.mp hd;exact qb7 bs q
theorem q8p{bs gs:ae}(h:gs.length<=1000):q1b [E5,E5]=↥cU:=by
 unfold q1b q3i;have hl:(gs.map Oh).length<=1000000:=by rw[zB];omega
 have cm:=qD (i:=0) (f:=q2N) Oh rR gs (ω:=KD) (λq hq=>by
  have w:=qg9 (ns:=[q.1,q.2,Q4,Q8]) (by show 4<=1000;decide);rw[show D.tup ([q.1,q.2,Q4,Q8].map D.int)=WS bs q from rfl]at w;unfold q2N;simp_arith[w])
 simp_arith[q4j (qfp bs gs),KF,inW,Wa,cm,zAm,q5K]
theorem qaC{g:af}(hn:g≠[])(h:g.length<=1000):q1Z [gD g]=↥cU:=by
 unfold q1Z q4w gD;have w:=qgm h;have hp:HM<(g.length:Nat):=by have:=Zv.mpr hn;omega
 simp_arith[w,hp,decide_true]
theorem qdX{P:af}{gs:bP}(hP:P.Pairwise (· < ·))(h:acV):XZ gs.flatten=P:=by
 have hn:P.Nodup:=hP.imp λ{a b} z=>Za z;exact q0H q0E (hP.imp λ{a b} z=>yg z) ((qz (l:=gs.flatten)).trans h)
theorem q6r(ns:af):shp Sk=true:=q7k 2 (by decide) λd hd=>by
 obtain⟨q,_,rfl⟩:=zi.mp hd;exact⟨rfl,by show 0<=2;decide⟩
theorem q5O:∀{gs:bP}{g:af},g∈gs->g.length<=gs.flatten.length
 | g'::gs,g,h=>by
  rw[yB,zD];rcases zG.mp h with rfl|h
  ·omega
  ·have:=q5O h;omega
theorem q5c:∀{gs:bP},(∀g∈gs,g≠[])->gs.length<=gs.flatten.length
 | [],_=>zL _
 | g::gs,h=>by
  rw[yB,zD,zJ];have:=q5c (gs:=gs) λg hg=>h g (zH _ hg);have:=Zv.mpr (h g zF);omega
theorem q8r{P:af}{gs:bP}(hP:P.Pairwise (· < ·))(hl:P.length<64)(ne:∀g∈gs,g≠[])(pm:acV):q0W [bS,lD]=↥cU:=by
 unfold q0W q39;have fl:gs.flatten.length<64:=by rw[pm.length_eq];exact hl
 have gl:=q5c ne;have hl2:(gs.map gD).length<=1000000:=by rw[zB];omega
 have cm:=qD (i:=0) (f:=q2A) gD rR gs (ω:=KD) (λg hg=>by
  have w:=qaC (ne g hg) (by have:=q5O hg;omega);unfold q2A;simp_arith[w])
 simp_arith[Qr,inW,Wa,cm,zAm,q5K];obtain⟨ω',e,x3,rfl⟩:=q0a (g:=gN 3) (b:=q2M) gD gs
  (λpre ω=>∃x3,ω=[↥bS,↥lD,JQ,x3])
  (λpre g post ω hd Z_=>by
   obtain⟨x3,hω⟩:=Z_;subst hω;refine dv;have hle:(pre.flatten.map D.int).length+(g.map D.int).length<=1000000:=by
    have:=uB (λz=>z.flatten.length) hd;simp only[wz,yB,zD]at this;rw[zB,zB];omega
   have e1:=q5e (i:=2) (ω:=lm) (ds:=pre.flatten.map D.int) (ds':=g.map D.int) hle;unfold q2M;show zBO (zDC 2 ff lm) _;simp_arith[e1];have ef:(pre++[g]).flatten=pre.flatten++g:=by rw[wz,yB,YZ,zx]
   rw[ef,zW];exact bD)
  (ω:=[↥bS,↥lD,oO,none]) GH
 simp_arith[e,q7t fl,qdX hP pm,q4j (q6r P)]
noncomputable def nmD(p:kO):D:=.tup [.int acK,gD p.2]
theorem qaS:∀(k:Nat)(gs:bP),W7 k l7=(nmP k gs).map nmD
 | _,[]=>rfl
 | k,g::gs=>by show D.tup [.int Aw,gD g]::W7 (k+1) l7=_;rw[qaS];rfl
theorem qdy(a b:TX):kkP LP=kkP a++kkP b:=by unfold kkP;rw[wS]
theorem qj7(a b:TX):vvP LP=vvP a++vvP b:=by unfold vvP;rw[wS]
theorem q6X{gs:bP}(nd:gs.flatten.Nodup)(fl:VZ):qQ [bS]=↥(.dic Gy Gx):=by
 unfold qQ q1V;simp_arith[qaS];have nd':(kkP fO).Nodup:=by rw[q5H];exact nd
 have fl':(kkP fO).length<64:=by rw[q5H];exact fl
 generalize nmP 0 gs=ps at nd' fl';obtain⟨ω',e,x2,x3,x4,rfl⟩:=q0a (g:=gT 2 Bu) (b:=q1v) nmD ps
  (λpre ω=>∃x2 x3 x4,ω=[↥bS,Mo,x2,x3,x4])
  (λpre p post ω hd Z_=>by
   obtain⟨x2,x3,x4,hω⟩:=Z_;subst hω;refine dv;unfold q1v;obtain⟨k,g⟩:=p;rw[hd,qdy]at nd' fl';show zBO (zAi _ _ _ mh) _;simp_arith[qV];obtain⟨ω',e,y4,rfl⟩:=q0a (g:=gN 4) (b:=q1s) D.int g
    (λpre' ω=>∃y4,ω=[↥bS,some (.od (kkP pre++pre') (vvP pre++pre'.map λ_=>D.int Aw)),↥(.int Aw),DJ,y4])
    (λpre' c post' ω hd' Z_=>by
     obtain⟨y4,hω⟩:=Z_;subst hω;refine dv;have nd2:(kkP pre++(pre'++c::post')).Nodup:=by
      have:(kkP pre++(g++kkP post)).Nodup:=nd';rw[hd',<- zM]at this;exact(yl.mp this).1
     have hnew:c∉kkP pre++pre':=λm=>by
      rw[<- zM]at nd2;exact(yl.mp nd2).2.2 c m c zF rfl
     have hlen:(kkP pre++pre').length<1000000:=by
      have:(kkP pre++(g++kkP post)).length<64:=fl';rw[hd']at this;simp only[zD,zJ]at this ⊢;omega
     obtain⟨p1,p2⟩:=qbN (xs:=vvP pre++pre'.map λ_=>D.int Aw) (D.int Aw) hnew;unfold q1s;simp_arith[q48 hlen,p1,p2,zM];exact⟨_,by rw[zW];rfl⟩)
    (ω:=mh) ⟨x4,by rw[zx,yr,zx]⟩
   simp_arith[e];have ek:kkP ad9=kkP pre++g:=by
    rw[qdy];show kkP pre++(g++[])=_;rw[zx]
   have ev:vvP ad9=vvP pre++g.map λ_=>D.int Aw:=by
    rw[qj7];show vvP pre++((g.map λ_=>D.int Aw)++[])=_;rw[zx]
   rw[ek,ev];exact AX)
  (ω:=[↥bS,nv,none,none,none]) Db
 simp_arith[e]
theorem qf1{gs:bP}{ds:aY}(nd:gs.flatten.Nodup)(fl:VZ)(hl:ds.length<=10000)(h:∀d∈ds,∃a b r,d=.tup (.int a::.int b::r)/\∃g∈gs,a∈g/\b∈g):
  q09 [bS,fQ]=↥cU:=by
 unfold q09 q1q;have hl2:ds.length<=1000000:=∅
 have cm:=q3G (i:=0) (f:=q1i) rR ds (ω:=[none,↥(.dic Gy Gx)]) (λd hd=>by
  obtain⟨a,b,r,rfl,g,hg,h1,h2⟩:=h d hd;obtain⟨i,v1,v2⟩:=qfD nd hg h1 h2;unfold q1i;have q:oEq false iR iR=↥cU:=q4j rfl;simp_arith[v1,v2,q])
 simp_arith[q6X nd fl,Qr,inW,Wa,cm,zAm,q5K]
theorem qi9(q:bo):q0c [edD q]=↥E8:=by
 unfold q0c q9n edD;simp_arith[qV]
theorem qaw{P:af}{kn:ae}{r:cK}(hP:P.Pairwise (· < ·))(hl:P.length<64)(hk:kn.length<=1000)(L:Lev P kn r):
  q1S [WU r,lD,ab8,.lst ((Y7 P).map edD)]=↥cU:=by
 obtain⟨t,gs⟩:=r;have hPn:P.Nodup:=hP.imp λ{a b} z=>Za z;have nd:gs.flatten.Nodup:=L.pm.nodup_iff.mpr hPn;have fl:gs.flatten.length<64:=by rw[L.pm.length_eq];exact hl
 have glen:(Y7 P).length<=64:=by rw[q0D];omega
 unfold q1S q4D WU;have ag:=q8r hP hl L.ne L.pm;have hl2:((Y7 P).map edD).length<=1000000:=by rw[zB];omega
 have cm:=q2P (i:=0) (c:=q3M) (f:=q40) (λq=>decide Cu) edD edD (Y7 P) (ω:=[none,↥(.tup [.int t,bS])]) (λq hq=>by
  unfold q3M q40;have c:=qi9 q;simp_arith[c];exact⟨trivial,λ_=>trivial⟩)
 have fil_len:((Y7 P).filter λq=>decide Cu).length<=64:=yI (yH _ _) glen;have ad:WC ab8 (.lst (((Y7 P).filter λq=>decide Cu).map edD))=some (.fr (kn.map XJ++((Y7 P).filter λq=>decide Cu).map edD)):=q1x (by rw[zB,zB];omega);have ho:=qf1 (gs:=gs) (ds:=kn.map XJ++((Y7 P).filter λq=>decide Cu).map edD) nd fl (by rw[zD,zB,zB];omega) λd hd=>by
  rcases zK.mp hd with z|z
  ·obtain⟨q,hq,rfl⟩:=zi.mp z
   exact⟨q.1,q.2,[],rfl,L.tie q (zV _ hq)⟩
  ·obtain⟨q,hq,rfl⟩:=zi.mp z
   exact⟨q.1,q.2,[E8],rfl,L.tie q (zS _ hq)⟩
 have l2:aaA=true:=rfl;simp_arith[l2,qbs,ag,Qr,inW,Wa,cm,ad,ho]
theorem qaG:∀(xs ys:af),zAV ig Fu=(xs.zip ys).map XJ
 | x::xs,y::ys=>by show D.tup [Bh,.int y]::zAV ig Fu=_;rw[qaG xs ys];rfl
 | [],ys=>by cases ys <;> rfl
 | x::xs,[]=>rfl
theorem qb4:∀{rows:AT}{a:Int},zCq a rows->((a::rows.map (·.1)).zip (rows.map (·.1))).all P7=true
 | [],a,_=>rfl
 | r::rs,a,⟨h1,h2⟩=>by
  show (decide (a<r.1)&&((r.1::rs.map (·.1)).zip (rs.map (·.1))).all P7)=true;rw[vT h1,qb4 h2];rfl
theorem qic{rows:AT}(h:O6)(hl:CT):q0o [.lst OH]=↥cU:=by
 unfold q0o q1Y;have e0:OH=(rows.map (·.1)).map D.int:=by rw[yM];rfl
 have ad:WC (.lst [Rx]) (.lst ((rows.map (·.1)).map D.int))=some (.fr ((0::rows.map (·.1)).map D.int)):=q1x (by rw[zB,zB,zT];omega);have hl2:(((0::rows.map (·.1)).zip (rows.map (·.1))).map XJ).length<=1000000:=by rw[zB,xW,zB];omega
 have cm:=q1W (g:=gT 2 cv) (c:=Xj) (f:=q1p) (λw=>∃a b,w=Bb) Cn XJ (λp=>D.bl (decide (p.1<p.2))) ((0::rows.map (·.1)).zip (rows.map (·.1))) (ω:=Hs) lw (λp _ w Z_=>by
  obtain⟨a,b,hw⟩:=Z_;subst hw;refine⟨[↥(.int p.1),↥(.int p.2)],rfl,lw,rfl,eW⟩;unfold q1p;simp_arith[qV])
 rw[Mi]at cm;rw[e0];have tz:zAV (.int 0::(rows.map (·.1)).map D.int) ((rows.map (·.1)).map D.int)=((HM::rows.map (·.1)).zip (rows.map (·.1))).map XJ:=qaG (0::Ys Prod.fst rows) (Ys Prod.fst rows);simp_arith[ad,tz,Qr,inW,Wa,cm,zAm,q8O,qb4 h]
theorem q4E{h l:Int}{bs:ae}(hb:bM):qT c9=some (.fr abg):=by
 unfold qT q3O;have hl:((Y7 aA).map XJ).length<=1000000:=by rw[zB];have:=q3z (h:=h) (l:=l) hb;omega
 have cm:=qD (i:=0) (f:=q3a) XJ edD Ay (ω:=KD) (λq hq=>by
  obtain⟨a,b⟩:=q;unfold q3a XJ edD;simp_arith[qV])
 have g:=q23 (h:=h) (l:=l) hb;rw[show XU bB=Pz h l bs from rfl]at g;simp_arith[g,KF,inW,Wa,cm]
theorem qjL{h l:Int}{bs:ae}(hb:bM):(Kn h l bs).length<=1000:=by
 unfold Kn;have h1:=yH (λq=>! fV) Ay;have h2:(Y7 aA).length<=64:=by rw[q0D];have:=q5n (h:=h) (l:=l) hb;omega
 rw[zD,zD,zT];omega
theorem q8w{h l:Int}{bs:ae}{rows:AT}(hb:bM)(hr:CT)(ris:O6)(L:∀r∈rows,Lev aA Ge r):
  q16 [ib,jJ,aE,MP]=↥cU:=by
 unfold q16 q3f;have s:=q3x (h:=h) (l:=l) hb;have k:=q4c (h:=h) (l:=l) hb;rw[show XU bB=Pz h l bs from rfl]at s k;rw[show (bs++rZ++(Y7 aA).filter λq=>! fV)=Kn h l bs from rfl]at k;have ed:=q4E (h:=h) (l:=l) hb;have hl:(rows.map WU).length<=1000000:=by rw[zB];omega
 have c1:=qD (i:=0) (f:=q2I) WU rR rows (ω:=[none,↥MS,↥(.lst ((Kn h l bs).map XJ)),↥(.lst abg)]) (λr hr=>by
  have il:=qaw (q5G h l bs) (q5n hb) (qjL hb) (L r hr);unfold q2I;simp_arith[il])
 have c2:=qD (i:=0) (f:=q2B) WU (λr=>D.int r.1) rows (ω:=KD) (λr hr=>by
  unfold q2B WU;simp_arith[qV])
 simp_arith[s,k,ed,KF,inW,Wa,c1,c2,zAm,q5K,qic ris hr]
theorem q55{h l:Int}{bs:ae}{rows:AT}(hb:bM)(hr:CT)(ris:O6)(L:∀r∈rows,Lev aA Ge r):
  q04 [ib,jJ,aE,eP]=↥cU:=by
 unfold q04 q3K;have c:=q91 (h:=h) (l:=l) (bs:=bs) ∅;have l2:aaA=true:=rfl;simp_arith[l2,c,q32 hb,q8p (q3z hb),q8w hb hr ris L]
theorem q6N{D0 D1:dh}:∀(rows:AT)(tot a:Int)(x4 x5:dh),(∀r∈rows,r.2.length<=1000)->∃a' y4 y5,zAk acW q2R iZ [D0,↥pK,↥(.int tot),↥cB,x4,x5] =
  some (.nx,[D0,↥pK,↥(.int (tot+wgh a rows)),↥(.int a'),y4,y5])
 | [],tot,a,x4,x5,_=>⟨a,x4,x5,by show some _=_;rw[show tot+wgh a []=tot from YO _]⟩
 | r::rs,tot,a,x4,x5,h=>by
  obtain⟨t,gs⟩:=r;have hg:=h (t,gs) zF;obtain⟨a',y4,y5,ih⟩:=q6N (D0:=D0) (D1:=D1) rs ad2 t ↥(.int t) ↥(.lst l7) λr hr=>h r (zH _ hr);refine⟨a',y4,y5,?_⟩;have mu:zBW (.int (t-a)) (.int og)=↥(.int ((t-a)*og)):=q5Z (by simp only at hg;omega) (by simp only at hg;omega);rw[zZ,zAk];show Option.bind (some CA) _=_;rw[yW];have st:q2R CA=some (.nx,[D0,↥pK,↥(.int ad2),GL,GL,↥bS]):=by
   unfold q2R;simp_arith[mu]
  rw[st];show zAk _ _ _ _=_;rw[ih,show wgh a ((t,gs)::rs)=(t-a)*og+wgh t rs from rfl,Int.add_assoc]
theorem qcH{rows:AT}(h:∀r∈rows,r.2.length<=1000):q2w [MP,pK]=↥U4:=by
 unfold q2w q5p;obtain⟨a',y4,y5,e⟩:=q6N (D0:=↥MP) (D1:=none) rows 0 0 none none h;simp_arith[e,Int.zero_add]
theorem q53{bs:ae}{q:bo}:0<=rts bs q/\rts bs q<=bs.length/\0<=lfs bs q/\lfs bs q<=bs.length:=by
 unfold rts lfs;have h1:=yH (λp:Int×Int=>over p.1 p.2 q) bs;have h2:=yH (λp:Int×Int=>over p.2 p.1 q) bs;omega
theorem qcC{h l:Int}{bs:ae}{q:bo}(hb:bM):-100<=XN h l bs q/\XN h l bs q<=100:=by
 unfold XN;have h1:=q53 (bs:=bs) (q:=q);have h2:=q53 (bs:=rZ) (q:=q);simp only[zT]at h2;omega
noncomputable def gwt(h l:Int)(bs:ae)(g:bo):Int:=Ab*(rts bs g+lfs bs g+zAP (XN h l bs g))
theorem q8x{h l:Int}{bs:ae}{q:bo}(hb:bM):q0V [Ee,B3]=↥(.int aem):=by
 unfold q0V q3k WS gwt;have h1:=q53 (bs:=bs) (q:=q);have h2:=qcC (h:=h) (l:=l) (q:=q) hb;have ha:zCe [B3]=↥adE:=rfl;have h3:-100<=zAP dQ/\zAP dQ<=100:=by unfold zAP;split <;> omega
 have mu:zBW E8 (.int NF)=↥(.int ((q.2-q.1)*NF)):=q5Z ∅ ∅;have a3:∀a b c d:D,atI R5 3=some d:=λ_ _ _ _=>rfl;simp_arith[ha,a3,mu]
theorem qdg(f:j9)(B:Int×Int->D):∀L:List bo,zAV (L.map B) Fc=L.map λq=>D.tup [B q,BM]
 | []=>rfl
 | q::L=>by show D.tup [B q,BM]::zAV (L.map B) Fc=_;rw[qdg f B L];rfl
theorem qeI{h l:Int}{bs:ae}{rows:AT}(hb:bM)(hr:CT)(ris:O6)(L:∀r∈rows,Lev aA Ge r):
  q18 [ib,jJ,aE,eP]=↥(.int (((Y7 aA).map J3).sum+2*wgh 0 rows)):=by
 unfold q18 q6g;have lk:=q6v (h:=h) (l:=l) hb;rw[show XU bB=Pz h l bs from rfl]at lk;have hz:zAV mM (((Y7 aA).map gS).map D.int)=(Y7 aA).map λq=>D.tup [Ee,B3]:=qdg _ _ _;have hl:((Y7 aA).map λq=>D.tup [Ee,B3]).length<=1000000:=by rw[zB];have:=q3z (h:=h) (l:=l) hb;omega
 have cm:=q1W (g:=gT 2 cv) (c:=Xj) (f:=q50) (λw=>∃a b,w=Bb) Cn (λq=>D.tup [Ee,B3]) (λq=>D.int aem) Ay (ω:=Hs) lw (λq _ w Z_=>by
  obtain⟨a,b,hw⟩:=Z_;subst hw;refine⟨[↥Ee,↥B3],rfl,lw,rfl,eW⟩;have g:=q8x (h:=h) (l:=l) (q:=q) hb;unfold q50;simp_arith[g])
 rw[Mi]at cm;have gl:∀r∈rows,r.2.length<=1000:=λr hr=>by
  have h1:=q5c (L r hr).ne;rw[(L r hr).pm.length_eq]at h1;have:=q5n (h:=h) (l:=l) hb;omega
 have wg:=qcH gl;have mu:zBW acd U4=↥(.int (2*wgh 0 rows)):=q97 (by decide) (by decide);simp_arith[q55 hb hr ris L,lk,hz,KF,inW,Wa,cm,qdq,wg,mu]
theorem qX{h l:Int}{bs:ae}(p:Int):p∈Pz h l bs↔p=h\/p=l\/∃b∈bs,p=b.1\/p=b.2:=by
 unfold Pz;rw[q1E];unfold plc flat;simp only[zG,xj,zj,or_false]
theorem qe7{P:af}{g:bo}(h:g∈Y7 P):∃(i:Nat) (hi:Tt),g=(P[i],P[i+1]):=by
 obtain⟨i,hi,rfl⟩:=zY.mp h;have hi':=hi;rw[q0D]at hi';have e:=qgd (P:=P) (i:=i) ∅;refine⟨i,∅,?_⟩;rw[Vr]at e;exact zr e
theorem q1G{P:af}{g:bo}(h:g∈Y7 P):g.1∈P/\g.2∈P:=by
 obtain⟨i,hi,rfl⟩:=qe7 h;exact⟨yZ _,yZ _⟩
theorem q98{h l:Int}{bs:ae}(hb:bM):∀g∈Y7 (Pz h l bs),Gap h l bs g:=λg hg=>by
 have S:=stp h l hb;obtain⟨i,hi,rfl⟩:=qe7 hg;have am:∀x∈Pz h l bs,x<=(Pz h l bs)[i]\/(Pz h l bs)[i+1]<=x:=λx hx=>Stp.amid (P:=Pz h l bs) S hi hx;exact⟨Stp.lt (P:=Pz h l bs) S ∅ hi ∅,am h ((qX h).mpr bC),am l ((qX l).mpr QC),λb hb=>⟨am _ Gn,am _ lK⟩⟩
theorem qjM{h l:Int}{bs:ae}{e:bo}(he:e∈Kn h l bs):e.1∈Pz h l bs/\e.2∈Pz h l bs:=by
 unfold Kn at he;rcases zK.mp he with he|he
 ·rcases zK.mp he with he|he
  ·exact⟨(qX _).mpr (.inr (.inr ⟨e,he,bC⟩)),(qX _).mpr (.inr (.inr ⟨e,he,MT⟩))⟩
  ·cases zR.mp he
   exact⟨(qX _).mpr bC,(qX _).mpr QC⟩
 ·exact q1G (yL.mp he).1
def okN(n:Nat)(d:D):Prop:=d.py.canLay0=true/\d.py.depth<=n
theorem q9M{n:Nat}:∀{ds:aY},(∀d∈ds,okN n d)->PyData.canLayAll0 kj=true/\PyData.depthAll kj<=n
 | [],_=>SC
 | d::ds,h=>by
  obtain⟨a,b⟩:=q9M λe he=>h e KW;obtain⟨a',b'⟩:=h d zF;refine MX
  ·rw[D.pys,PyData.canLayAll0,a,a'];rfl
  ·rw[D.pys,PyData.depthAll];exact Nat.max_le.mpr ⟨b',b⟩
theorem q6S{n:Nat}{ds:aY}(h:∀d∈ds,okN n d):okN (n+1) fQ:=by
 obtain⟨a,b⟩:=q9M h;exact⟨a,by show PyData.depthAll kj+1<=n+1;omega⟩
theorem qem{n:Nat}{ds:aY}(h:∀d∈ds,okN n d):okN (n+1) B2:=by
 obtain⟨a,b⟩:=q9M h;exact⟨a,by show PyData.depthAll kj+1<=n+1;omega⟩
theorem qdQ(n:Nat)(x:Int):okN n Bh:=SC
theorem okN.up{n m:Nat}{d:D}(h:okN n d)(hm:n<=m):okN m d:=⟨h.1,yI h.2 hm⟩
theorem qjX(g:af):okN 1 (gD g):=q6S λd hd=>by obtain⟨x,_,rfl⟩:=zi.mp hd;exact qdQ 0 x
theorem qcW(r:cK):okN 3 (WU r):=qem λd hd=>by
 rcases zG.mp hd with rfl|hd
 ·exact qdQ _ _
 ·cases zR.mp hd
  exact q6S λd hd=>by obtain⟨g,_,rfl⟩:=zi.mp hd;exact qjX g
theorem qjc(bs:ae)(q:bo):okN 1 Ee:=⟨(qb7 bs q).1,by show 1<=1;decide⟩
theorem q8K{n:Nat}{d:D}(h:okN n d)(hn:n<65):shp d=true:=by
 unfold shp SeqAt.shaped;rw[h.1,vT (by have:=h.2;omega)];rfl
theorem q1z(a b:Int)(r:af):Y7 (a::b::r)=(a,b)::Y7 (b::r):=rfl
noncomputable def xR(x p q:Int):Int:=if p<x/\x<=q then 1 else 0
noncomputable def chi(x y:Int):Int:=if x<=y then 1 else 0
theorem qcM(x p q:Int):xR x p q-xR x q p=chi x q-chi x p:=by
 unfold xR chi
 by_cases h1:x<=p <;> by_cases h2:x<=q
 ·rw[iW,iW,vH h2,Qc];rfl
 ·rw[iW,lf,vJ h2,Qc]
 ·rw[lf,iW,vH h2,vJ h1]
 ·rw[iW,iW,vJ h2,vJ h1]
theorem qbx{g:bo}{x p q:Int}(hp:Mu)(hq:Ms)(h1:g.1<x)(h2:x<=g.2):xR x p q=if over p q g=true then 1 else 0:=by
 unfold xR over
 by_cases z1:p<=g.1 <;> by_cases z2:g.2<=q
 ·rw[lf,vH (by rw[vT z1,vT z2];rfl)]
 ·rw[iW,vJ (by rw[vX z2];simp)]
 ·rw[iW,vJ (by rw[vX z1];simp)]
 ·rw[iW,vJ (by rw[vX z1];simp)]
theorem q78(F:Int×Int->Bool):∀bs:List bo,(bs.map λb=>if F b=true then Bf else 0).sum=((bs.filter F).length:Nat)
 | []=>rfl
 | b::bs=>by
  rw[zZ,z8,q78 F bs,yQ]
  split <;> simp <;> omega
theorem qgS{h l:Int}{bs:ae}{g:bo}(G:Gap h l bs g){x:Int}(h1:g.1<x)(h2:x<=g.2):(bs.map λb=>xR x b.1 b.2).sum=rts bs g/\(bs.map λb=>xR x b.2 b.1).sum=lfs bs g:=by
 unfold rts lfs;rw[<- q78,<- q78];exact⟨uB _ (yR λb hb=>qbx (G.b b hb).1 (G.b b hb).2 h1 h2),uB _ (yR λb hb=>qbx (G.b b hb).2 (G.b b hb).1 h1 h2)⟩
noncomputable def WJ(p q:Int):Int:=if q-p<0 then -(q-p)else q-p
noncomputable def sts(as:ae):List Int:=as.map (·.1)
noncomputable def gls(as:ae):List Int:=as.map (·.2)
theorem q9Q:∀(a b:af),PyData.eqvAll E4 EZ=decide (a=b)
 | [],[]=>rfl
 | [],_::_=>rfl
 | _::_,[]=>rfl
 | x::a,y::b=>by
  show (x==y&&PyData.eqvAll E4 EZ)=_;rw[q9Q a b]
  by_cases z:x=y
  ·subst z
   simp
  ·have:(x==y)=false:=by simpa using z
   rw[this];simp[z]
theorem qgf(a b:af):oEq false (.lst (a.map D.int)) (.lst (b.map D.int))=↥(.bl (decide (a=b))):=by
 unfold oEq;rw[q6r,q6r];show some (R.sh (.bl (PyData.eqvAll E4 EZ)))=_;rw[q9Q]
theorem qhI{as:ae}(hl:Fk):qI [aU]=↥abb:=by
 unfold qI q0u;have hl2:(as.map Y4).length<=1000000:=by rw[zB];omega
 have c1:=qD (i:=0) (f:=q0g) Y4 (λp=>D.int p.1) as (ω:=KD) (λp _=>by
  unfold q0g Y4;simp_arith[qV])
 have c2:=qD (i:=0) (f:=q0f) Y4 (λp=>D.int p.2) as (ω:=KD) (λp _=>by
  unfold q0f Y4;simp_arith[qV])
 have e1:(as.map λp=>D.int p.1)=(sts as).map D.int:=by unfold sts;rw[yM];rfl
 have e2:(as.map λp=>D.int p.2)=(gls as).map D.int:=by unfold gls;rw[yM];rfl
 rw[e1]at c1;rw[e2]at c2;have s1:=q8F (ns:=sts as) (by unfold sts;rw[zB];omega);have s2:=q8F (ns:=gls as) (by unfold gls;rw[zB];omega);have q:oEq false (.lst ((XZ (sts as)).map D.int)) (.lst ((XZ (gls as)).map D.int))=↥abb:=by
  rw[qgf,decide_eq_decide.mpr (qfT (l:=sts as) (m:=gls as))]
 simp_arith[Qr,inW,Wa,c1,c2,s1,s2,q]
noncomputable def Xo(as:ae)(n:Nat):Int:=(as.getD n (0,0)).1
noncomputable def WI(as:ae)(n:Nat):Int:=(as.getD n (0,0)).2
inductive Wlk (as:List (Int×Int)):Int->List Nat->Int->Prop where
 | nil (a:Int):Wlk as a [] a
 | cons {a b:Int} {n:Nat} {r:List Nat} (h:Xo as n=a) (t:Wlk as (WI as n) r b):Wlk as a (n::r) b
theorem Wlk.app{as:ae}{a b c:Int}{r q:cP}(h:Wlk as a r b)(h':Wlk as b q c):Wlk as a (r++q) c:=by
 induction h with
 | nil _=>exact h'
 | cons e _ ih=>exact .cons e (ih h')
theorem Wlk.snoc{as:ae}{a b:Int}{r:cP}{n:Nat}(h:Wlk as a r b)(e:Xo as n=b):Wlk as a (r++[n]) pb:=h.app (.cons e (.nil _))
theorem Wlk.last{as:ae}:∀{r:cP}{a b:Int}{n:Nat},Wlk as a (r++[n]) b->b=WI as n/\Wlk as a r jg
 | [],a,b,n,h=>by
  cases h with
  | cons e t=>cases t;exact⟨rfl,by rw[<- e];exact .nil _⟩
 | m::r,a,b,n,h=>by
  cases h with
  | cons e t=>
   obtain⟨h1,h2⟩:=Wlk.last t;exact⟨h1,.cons e h2⟩
noncomputable def cS(as:ae)(U:cP)(v:Int):Nat:=U.countP λn=>decide (Xo as n=v)
noncomputable def cD(as:ae)(U:cP)(v:Int):Nat:=U.countP λn=>decide (WI as n=v)
noncomputable def ind(v h:Int):Int:=if v=h then 1 else 0
def bal(as:ae)(U:cP)(h x:Int):Prop:=∀v,(cS as U v:Int)-cD as U v=ind v h-ind v x
structure HI (as:List (Int×Int)) (s:Int) (U T B:List Nat) (h:Int):Prop where
 all:(U++(T++B)).Perm (zo as.length)
 inv:∃x T0 T1,T=T0++T1/\Wlk as s T0 x/\Wlk as x T1 h/\Wlk as x B.reverse s/\bal as U h x
 shut:∀n∈B,∀m∈U,Xo as m≠WI as n
theorem qhm{as:ae}{U U':cP}{n:Nat}(h:PJ)(v:Int):cS as U v=cS as U' v+if Xo as n=v then 1 else 0:=by
 unfold cS;rw[h.countP_eq,wo];simp
theorem qia{as:ae}{U U':cP}{n:Nat}(h:PJ)(v:Int):cD as U v=cD as U' v+if WI as n=v then 1 else 0:=by
 unfold cD;rw[h.countP_eq,wo];simp
theorem HI.start{as:ae}{s:Int}{U:cP}(hU:U.Perm eF)(hb:∀v,cS as U v=cD as U v):HI as s U [] [] s :=
 ⟨by simpa using hU,⟨s,[],[],rfl,.nil _,.nil _,.nil _,λv=>by rw[hb v];omega⟩,λn hn=>by cases hn⟩
theorem HI.push{as:ae}{s h:Int}{U U' T B:cP}{n:Nat}(I:HI as s U T B h)(hn:PJ)(hs:Xo as n=h):HI as s U' (T++[n]) B pb:=by
 obtain⟨x,T0,T1,rfl,w0,w1,w2,b⟩:=I.inv;refine⟨?_,⟨x,T0,T1++[n],by rw[zM],w0,w1.snoc hs,w2,λv=>?_⟩,λk hk m hm=>I.shut k hk m (hn.mem_iff.mpr (zH _ hm))⟩
 ·refine xG ?_ I.all
  have h1:(U++CK).Perm ((n::U')++CK):=hn.append_right _;refine xG ?_ h1.symm;rw[zM (T0++T1) [n] B];have h2:(U'++((T0++T1)++([n]++B))).Perm (U'++([n]++CK)):=yS _ (by
   rw[<- zM,<- zM];exact xE _ yq)
  refine h2.trans ?_;show (U'++(n::CK)).Perm (n::(U'++CK));exact ZP
 ·have:=b v
  have e1:=qhm (as:=as) hn v;have e2:=qia (as:=as) hn v;unfold ind at this ⊢;rw[hs]at e1
  by_cases z1:v=h <;> by_cases z2:v=WI as n
  ·rw[vH z1.symm]at e1;rw[vH z2.symm]at e2;rw[vH z1]at this;rw[vH z2];omega
  ·rw[vH z1.symm]at e1;rw[vJ abl]at e2;rw[vH z1]at this;rw[vJ z2];omega
  ·rw[vJ abm]at e1;rw[vH z2.symm]at e2;rw[vJ z1]at this;rw[vH z2];omega
  ·rw[vJ abm]at e1;rw[vJ abl]at e2;rw[vJ z1]at this;rw[vJ z2];omega
theorem qbp{as:ae}{U:cP}{v:Int}(h:∀m∈U,Xo as m≠v):cS as U v=0:=by
 unfold cS;rw[Zw];intro m hm;simpa using h m hm
theorem stuck{as:ae}{U:cP}{h x:Int}(b:bal as U h x)(hs:∀m∈U,Xo as m≠h):h=x:=by
 have:=b h;rw[qbp hs]at this;unfold ind at this;rw[lg]at this
 by_cases z:h=x
 ·exact z
 ·rw[iw]at this;omega
theorem HI.pop{as:ae}{s h:Int}{U T B:cP}{n:Nat}(I:HI as s U (T++[n]) B h)(hs:∀m∈U,Xo as m≠h):HI as s U T (B++[n]) jg:=by
 obtain⟨x,T0,T1,e,w0,w1,w2,b⟩:=I.inv;have hx:=stuck b hs;subst hx;have w:Wlk as s (T++[n]) h:=by rw[e];exact w0.app w1
 obtain⟨e1,e2⟩:=w.last;refine⟨?_,⟨Xo as n,T,[],by rw[zx],e2,.nil _,?_,λv=>by have:=b v;omega⟩,λk hk m hm=>?_⟩
 ·refine xG (yS _ ?_) I.all
  rw[zM];exact yS _ yq
 ·rw[xY]
  exact .cons rfl (by rw[<- e1];exact w2)
 ·rcases zK.mp hk with y|y
  ·exact I.shut k y m hm
  ·cases zR.mp y
   rw[<- e1];exact hs m hm
structure Rnd (as:List (Int×Int)) (s:Int) (row U:List Nat):Prop where
 all:(U++row).Perm (zo as.length)
 walk:Wlk as s row s
 s0:∀m∈U,Xo as m≠s
 shut:∀n∈row,∀m∈U,Xo as m≠WI as n
 even:∀v,cS as U v=cD as U v
theorem HI.done{as:ae}{s h:Int}{U B:cP}(I:HI as s U [] B h)(hs:∀m∈U,Xo as m≠h):Rnd as s B.reverse U:=by
 obtain⟨x,T0,T1,e,w0,w1,w2,b⟩:=I.inv;obtain⟨rfl,rfl⟩:=List.append_eq_nil_iff.mp e.symm;cases w0;cases w1;refine⟨?_,w2,hs,λn hn=>I.shut n (yp.mp hn),λv=>by have:=b v;omega⟩;have:=I.all;rw[yT]at this;exact(yS _ (List.reverse_perm B)).trans this
theorem Wlk.mem{as:ae}{V:Int->Prop}:∀{r:cP}{a b:Int},Wlk as a r b->V a->(∀n∈r,V pb)->∀n∈r,V jg
 | [],_,_,_,_,_,n,hn=>by cases hn
 | m::r,a,b,h,ha,hv,n,hn=>by
  cases h with
  | cons e t=>
   rcases zG.mp hn with rfl|hn
   ·rw[e];exact ha
   ·exact t.mem (hv m zF) (λk hk=>hv k (zH _ hk)) n hn
theorem Rnd.full{as:ae}{s:Int}{row U:cP}(R:Rnd as s row U)(hr:∀a∈as,Rch as s a.1):row.length=as.length:=by
 have hU:U=[]:=by
  cases U with
  | nil=>rfl
  | cons m U'=>
   exfalso
   let V:Int->Prop:=λv=>v=s\/∃n∈row,WI as n=v
   have out:∀v,V v->∀k∈m::U',Xo as k≠v:=λv hv k hk=>by
    rcases hv with rfl|⟨n,hn,rfl⟩
    ·exact R.s0 k hk
    ·exact R.shut n hn k hk
   have inn:∀v,V v->∀k∈m::U',WI as k≠v:=λv hv k hk e=>by
    have h1:=qbp (as:=as) (out v hv);have h2:=R.even v;rw[h1]at h2;have:cD as (m::U') v=0:=h2.symm;unfold cD at this;rw[Zw]at this;exact this k hk ⇑e
   have row_of:∀(n:Nat),n<as.length->(V jg\/V pb)->n∈row:=λn hn hv=>by
    have:n∈(m::U')++row:=R.all.mem_iff.mpr (xC.mpr hn);rcases zK.mp this with y|y
    ·rcases hv with hv|hv
     ·exact vP rfl (out _ hv n y)
     ·exact vP rfl (inn _ hv n y)
    ·exact y
   have sv:∀n∈row,V jg:=R.walk.mem (V:=V) bC λn hn=>.inr ⟨n,hn,rfl⟩;have cl:∀c,Rch as s c->V c:=λc h=>h.inv V bC λb c hb e=>by
    rcases e with e|e
    ·obtain⟨n,hn,he⟩:=zY.mp e
     have es:Xo as n=b/\WI as n=c:=by
      unfold Xo WI;rw[zX,zA hn,he];exact dg
     exact .inr ⟨n,row_of n hn (.inl (by rw[es.1];exact hb)),es.2⟩
    ·obtain⟨n,hn,he⟩:=zY.mp e
     have es:Xo as n=c/\WI as n=b:=by
      unfold Xo WI;rw[zX,zA hn,he];exact dg
     rw[<- es.1];exact sv n (row_of n hn (.inr (by rw[es.2];exact hb)))
   have hm:m<as.length:=xC.mp (R.all.mem_iff.mp (by simp));have hrm:=hr _ (yZ hm);have es:Xo as m=(as[m]).1:=by unfold Xo;rw[zX,zA hm];rfl
   exact out _ (cl _ (by rw[<- es]at hrm;exact hrm)) m zF rfl
 have:=R.all.length_eq;rw[hU,yT,yC]at this;exact this
noncomputable def cst(l:cP):List Int:=l.map λ(n:Nat)=>cR
structure WT (as:List (Int×Int)) (ks:List Int) (xss:List (List Int)) (U:List Nat):Prop where
 len:ks.length=xss.length
 nd:U.Nodup
 mem:∀(v k:Int),k∈WB ks xss v↔∃n:Nat,k=n/\n∈U/\Xo as n=v
 gn:∀v,(WB ks xss v).Nodup
theorem q5g:∀{ks:af}{xss:bP}(h v:Int),ks.length=xss.length->WB ks mK v=if v=h then (WB ks xss h).dropLast else WB ks xss v
 | [],[],h,v,_=>by
  show ([]:List Int)=if v=h then ([]:List Int).dropLast else []
  split <;> rfl
 | [],_::_,_,_,hl=>by simp at hl
 | _::_,[],_,_,hl=>by simp at hl
 | k::ks,x::xss,h,v,hl=>by
  have ih:=q5g (ks:=ks) (xss:=xss) h v ⇑hl;unfold WB at ih ⊢;show (Xc KA (if k=h then x.dropLast::xss else x::WQ ks xss h) v).getD []=if v=h then ((if k=h then some x else Xc ks xss h).getD []).dropLast else (if k=v then some x else Xc ks xss v).getD []
  by_cases z:k=h
  ·rw[iP,iP]
   show (if k=v then some x.dropLast else Xc ks xss v).getD []=_
   by_cases y:k=v
   ·rw[K0,vH (by rw[<- y,z])];rfl
   ·rw[Mk,vJ (λe=>y (by rw[z,e])),Mk]
  ·rw[iw,iw]
   show (if k=v then some x else Xc ks mK v).getD []=_
   by_cases y:k=v
   ·rw[K0,vJ (λe=>z (by rw[y,e])),K0]
   ·rw[Mk,ih,Mk]
theorem q89:∀(ks:af)(xss:bP)(h:Int),(WQ ks xss h).length=xss.length
 | [],_,_=>rfl
 | _::_,[],_=>rfl
 | k::ks,x::xss,h=>by
  show (if k=h then x.dropLast::xss else x::WQ ks xss h).length=_
  split
  ·rfl
  ·rw[zJ,q89,zJ]
theorem q9F{l:af}{k a:Int}(nd:l.Nodup)(e:l.getLast?=some k):a∈l.dropLast↔a∈l/\a≠k:=by
 have hl:l=l.dropLast++[k]:=by
  have hne:l≠[]:=λz=>by rw[z]at e;cases e
  have:=wy hne;rw[List.getLast?_eq_getLast hne]at e;rw[UD]at this;exact this.symm
 rw[hl]at nd;have nd':=yl.mp nd
 constructor
 ·intro h
  exact⟨by rw[hl];exact zV _ h,λz=>nd'.2.2 a h k (by simp) z⟩
 ·rintro⟨h1,h2⟩
  rw[hl]at h1;rcases zK.mp h1 with y|y
  ·exact y
  ·exact vP (zR.mp y) h2
theorem WT.pop{as:ae}{ks:af}{xss:bP}{U:cP}(W:WT as ks xss U){h:Int}{m:Nat}(e:(WB ks xss h).getLast?=some jp):WT as ks mK (U.erase m):=by
 have hm:jp∈WB ks xss h:=Zp e;obtain⟨n,en,hn,hs⟩:=(W.mem h m).mp hm;have:n=m:=∅
 subst this;refine⟨by rw[q89];exact W.len,W.nd.erase _,λv k=>?_,λv=>?_⟩
 ·rw[q5g h v W.len]
  by_cases z:v=h
  ·rw[iP,q9F (W.gn h) e,W.mem h]
   constructor
   ·rintro⟨⟨n',rfl,h1,h2⟩,h3⟩
    exact⟨n',rfl,(W.nd.mem_erase_iff).mpr ⟨λq=>h3 (by rw[q]),h1⟩,by rw[z];exact h2⟩
   ·rintro⟨n',rfl,h1,h2⟩
    obtain⟨a,b⟩:=(W.nd.mem_erase_iff).mp h1;exact⟨⟨n',rfl,b,by rw[<- z];exact h2⟩,λq=>a ∅⟩
  ·rw[iw,W.mem v]
   constructor
   ·rintro⟨n',rfl,h1,h2⟩
    exact⟨n',rfl,(W.nd.mem_erase_iff).mpr ⟨λq=>z (by rw[<- h2,q,hs]),h1⟩,h2⟩
   ·rintro⟨n',rfl,h1,h2⟩
    exact⟨n',rfl,((W.nd.mem_erase_iff).mp h1).2,h2⟩
 ·rw[q5g h v W.len]
  split
  ·exact(W.gn h).sublist (List.dropLast_sublist _)
  ·exact W.gn v
theorem qbb{as:ae}{m:Nat}:(as.getD (jp).toNat (0,0)).1=Xo as m/\(as.getD (jp).toNat (0,0)).2=WI as m:=by
 rw[yk];exact dg
theorem q93{as:ae}{s:Int}(hl:Fk){ks:af}:∀(n:Nat)(xss:bP)(U T B:cP)(h:Int),HI as s U T B h->WT as ks xss U->2*U.length+T.length<n ->
  ∃row U',WK as ks n xss (cst T) (cst B) h=some (cst row)/\Rnd as s row U'
 | 0,_,_,_,_,_,_,_,hn=>vP hn Vv
 | n+1,xss,U,T,B,h,I,W,hn=>by
  have tot:U.length+(T.length+B.length)=as.length:=by
   have:=I.all.length_eq;rw[zD,zD,yC]at this;exact this
  unfold WK;cases e:(WB ks xss h).getLast? with
  | some k=>
   obtain⟨m,rfl,hm,hs⟩:=(W.mem h k).mp (Zp e);have hlt:m<as.length:=xC.mp (I.all.mem_iff.mp (zV _ hm));have pm:=List.perm_cons_erase hm;have I':=I.push pm hs;have ul:U.length=(U.erase m).length+1:=by have:=pm.length_eq;rw[zJ]at this;exact this
   obtain⟨row,U',r1,r2⟩:=q93 hl n mK (U.erase m) (T++[m]) B _ I' (W.pop e) (by rw[zD,zT];omega);refine abi;show (if 0<=jp/\jp<as.length/\(cst T).length<1000000 then WK as ks n mK (cst T++[jp]) (cst B) (as.getD (jp).toNat (0,0)).2 else none)=_;rw[vH ⟨∅,∅,by unfold cst;rw[zB];omega⟩,qbb.2];rw[show cst T++[jp]=cst (T++[m]) by unfold cst;rw[zW];rfl];exact r1
  | none=>
   have hem:WB ks xss h=[]:=wP.mp e;have hs:∀m∈U,Xo as m≠h:=λm hm z=>by
    have:jp∈WB ks xss h:=(W.mem h m).mpr ⟨m,rfl,hm,z⟩;rw[hem]at this;cases this
   rcases List.eq_nil_or_concat T with rfl|⟨T0,m,rfl⟩
   ·refine⟨B.reverse,U,?_,I.done hs⟩
    show some (cst B).reverse=_;unfold cst;rw[YX]
   ·rw[List.concat_eq_append]at I hn tot ⊢
    have hlt:m<as.length:=xC.mp (I.all.mem_iff.mp (zS _ (zV _ (by simp))));have I':=I.pop hs;rw[zD,zT]at hn tot;obtain⟨row,U',r1,r2⟩:=q93 hl n xss U T0 (B++[m]) _ I' W ∅;refine abi;have ec:cst (T0++[m])=cst T0++[jp]:=by unfold cst;rw[zW];rfl
    rw[ec];show (match (cst T0++[jp]).getLast? with
     | some k=>if 0<=k/\k<as.length/\(cst B).length<1000000 then WK as ks n xss (cst T0++[jp]).dropLast (cst B++[k]) (as.getD k.toNat (0,0)).1 else none
     | none=>some (cst B).reverse)=_
    rw[List.getLast?_concat];show (if 0<=jp/\jp<as.length/\(cst B).length<1000000 then WK as ks n xss (cst T0++[jp]).dropLast (cst B++[jp]) (as.getD (jp).toNat (0,0)).1 else none)=_;rw[vH ⟨∅,∅,by unfold cst;rw[zB];omega⟩,qbb.1,List.dropLast_concat];rw[show cst B++[jp]=cst (B++[m]) by unfold cst;rw[zW];rfl];exact r1
theorem q6k:∀{ks:af}{xss:bP}(a b v:Int),ks.length=xss.length->a∈ks->WB ks EF v=if v=a then WB ks xss v++[b]else WB ks xss v
 | [],_,_,_,_,_,h=>by cases h
 | _::_,[],_,_,_,hl,_=>by simp at hl
 | k::ks,x::xss,a,b,v,hl,ha=>by
  unfold WB;show (Xc KA (if k=a then SQ::xss else x::Wx ks xss a b) v).getD []=if v=a then ((if k=v then some x else Xc ks xss v).getD [])++[b]else (if k=v then some x else Xc ks xss v).getD []
  by_cases z:k=a
  ·rw[iP]
   show (if k=v then some SQ else Xc ks xss v).getD []=_
   by_cases y:k=v
   ·rw[K0,vH (by rw[<- y,z]),K0];rfl
   ·rw[Mk,vJ (λe=>y (by rw[z,e])),Mk]
  ·rw[iw]
   have ha':a∈ks:=(zG.mp ha).resolve_left λe=>z e.symm;have ih:=q6k (ks:=ks) (xss:=xss) a b v ⇑hl ha';unfold WB at ih;show (if k=v then some x else Xc ks EF v).getD []=_
   by_cases y:k=v
   ·rw[K0,vJ (λe=>z (by rw[y,e])),K0]
   ·rw[Mk,ih,Mk]
theorem q9b:∀{ks:af}{xss:bP}(a v:Int),ks.length=xss.length->WB Qj SO v=WB ks xss v
 | [],[],a,v,_=>by
  unfold WB;show (if a=v then some []else none).getD []=_
  split <;> rfl
 | [],_::_,_,_,hl=>by simp at hl
 | _::_,[],_,_,hl=>by simp at hl
 | k::ks,x::xss,a,v,hl=>by
  have ih:=q9b (ks:=ks) (xss:=xss) a v ⇑hl;unfold WB at ih ⊢;show (if k=v then some x else Xc Qj SO v).getD []=(if k=v then some x else Xc ks xss v).getD []
  by_cases y:k=v
  ·rw[K0,K0]
  ·rw[Mk,Mk,ih]
theorem qgt(as:ae):∀n:Nat,n<=as.length->(byS as n).1.length=(byS as n).2.length/\∀v,WB (byS as n).1 (byS as n).2 v=cst mU
 | 0,_=>⟨rfl,λv=>rfl⟩
 | n+1,hn=>by
  obtain⟨h1,h2⟩:=qgt as n ∅;have hlt:n<as.length:=∅
  have eb:byS as (n+1)=X4 NX n jg:=by
   show (match as[n]? with|some a=>X4 NX n a.1|none=>byS as n)=_;rw[oZ];unfold Xo;rw[zX,oZ];rfl
  have er:∀v,cst ((zo (n+1)).filter λj=>decide LT)=if v=Xo as n then cst mU++[cR]else cst mU:=λv=>by
   rw[Yj,ZC]
   by_cases z:v=Xo as n
   ·rw[iP]
    have:([n].filter λj=>decide LT)=[n]:=by rw[yQ,vH (vT z.symm)];rfl
    rw[this];unfold cst;rw[zW];rfl
   ·rw[iw]
    have:([n].filter λj=>decide LT)=[]:=by rw[yQ,vJ ⇑(λe=>z e.symm)];rfl
    rw[this,zx]
  rw[eb];unfold X4
  by_cases ha:Xo as n∈(byS as n).1
  ·rw[vH ha]
   exact⟨by show (byS as n).1.length=(Wx _ _ _ _).length;rw[q3s];exact h1,λv=>by
    show WB (byS as n).1 (Wx (byS as n).1 (byS as n).2 jg n) v=_;rw[q6k _ _ v h1 ha,er v,h2 v]⟩
  ·rw[vJ ha]
   have hl':((byS as n).1++[jg]).length=((byS as n).2++[[]]).length:=by rw[zD,zD,h1];rfl
   exact⟨by show ((byS as n).1++[jg]).length=(Wx _ _ _ _).length;rw[q3s];exact hl',λv=>by
    show WB Uq (Wx Uq ((byS as n).2++[[]]) jg n) v=_;rw[q6k _ _ v hl' (by simp),q9b _ v h1,er v,h2 v]⟩
theorem qjj{l:cP}(h:l.Nodup):(cst l).Nodup:=by
 unfold cst List.Nodup;rw[YQ];exact h.imp λ{a b} z e=>z ∅
theorem qeZ(as:ae):WT as (byS as as.length).1 (byS as as.length).2 eF:=by
 obtain⟨h1,h2⟩:=qgt as as.length bX;refine⟨h1,Yb,λv k=>?_,λv=>by rw[h2 v];exact qjj (Yb.filter _)⟩;rw[h2 v];unfold cst;rw[zi]
 constructor
 ·rintro⟨n,hn,rfl⟩
  obtain⟨a,b⟩:=yL.mp hn;exact⟨n,rfl,a,of_decide_eq_true b⟩
 ·rintro⟨n,rfl,a,b⟩
  exact⟨n,yL.mpr ⟨a,vT b⟩,rfl⟩
theorem qak{α:Type}(d:α):∀bs:List α,(zo bs.length).map Vk=bs:=λbs=>by
 apply Yc
 ·rw[zB,yC]
 ·intro i h1 h2
  rw[wN,YC,zX,zA h2];rfl
theorem q6E(as:ae)(v:Int):cS as eF v=(sts as).count v/\cD as eF v=(gls as).count v:=by
 have h:∀f:Int×Int->Int,(zo as.length).countP (λn=>decide (f aa0=v))=(as.map f).count v:=λf=>by
  have e:=qak (0,0) as;have:(as.map f)=(zo as.length).map λn=>f aa0:=by
   have:=uB (Ys f) e;rw[yM]at this;exact this.symm
  rw[this,List.count,Zl];rfl
 exact⟨h (·.1),h (·.2)⟩
theorem qfV{as:ae}{s:Int}(hl:Fk)(hp:Dz):∃row U,W9 s as=some (cst row)/\Rnd as s row U:=by
 have hb:∀v,cS as eF v=cD as eF v:=λv=>by
  rw[(q6E as v).1,(q6E as v).2,hp.count_eq]
 obtain⟨row,U,r1,r2⟩:=q93 (s:=s) hl 100000 (byS as as.length).2 eF [] [] s (HI.start (.refl _) hb) (qeZ as) (by rw[yC,wF];omega);exact⟨row,U,by unfold W9;rw[vH hl];exact r1,r2⟩
theorem qaK(v y:Int):(if y=v then Bf else 0)=chi v y-chi (v+1) y:=by
 unfold chi
 by_cases a:v<=y <;> by_cases b:v+1<=y <;> by_cases c:y=v <;> simp[a,b,c] <;> omega
noncomputable def flw(x:Int)(as:ae):Int:=(as.map λa=>chi x a.2-chi x a.1).sum
theorem q2V(x:Int)(a b:ae):flw x LP=flw x a+flw x b:=by unfold flw;rw[zW,xt]
theorem q3q(x:Int)(a:bo)(b:ae):flw x (a::b)=(chi x a.2-chi x a.1)+flw x b:=by unfold flw;rw[zZ,z8]
theorem qbX(v:Int):∀as:List bo,((as.countP λa=>decide (a.1=v):Nat):Int)-(as.countP λa=>decide (a.2=v):Nat)=flw (v+1) as-flw v as
 | []=>rfl
 | a::as=>by
  have ih:=qbX v as;have i1:=qaK v a.1;have i2:=qaK v a.2;rw[q3q,q3q,wo,wo]
  by_cases z1:a.1=v <;> by_cases z2:a.2=v <;> simp only[z1,z2,decide_true,decide_false,if_true,if_false,yG,Int.natCast_add,Int.natCast_one,Yd,Nat.add_zero]at i1 i2 ⊢ <;> omega
theorem qcb(xs:ae):(zo xs.length).map (λk=>xs.getD k (0,0))=xs:=by
 apply yt;intro i;rw[zP];rcases zz i xs.length with z|z
 ·rw[wB z,xH,zX,zA z];rfl
 ·rw[zu ⇑z,zu z];rfl
theorem qeN(as:ae)(v:Int):cS as eF v=(as.countP λa=>decide (a.1=v))/\cD as eF v=(as.countP λa=>decide (a.2=v)):=by
 have e:=qcb as
 constructor
 ·conv=>rhs;rw[<- e]
  rw[Zl];rfl
 ·conv=>rhs;rw[<- e]
  rw[Zl];rfl
theorem qaA{as:ae}(h:∀x,flw x as=0)(v:Int):cS as eF v=cD as eF v:=by
 rw[(qeN as v).1,(qeN as v).2];have:=qbX v as;rw[h,h]at this;omega
theorem q99(x:Int):∀(r:af)(k:Int),(k::r).Pairwise (· < ·)->(∃g∈Y7 (k::r),g.1<x/\x<=g.2/\∀c:Int×Int->Int,((Y7 (k::r)).map λg=>c g*eQ).sum=c g)\/(∀p∈k::r,∀q∈k::r,chi x p=chi x q)
 | [],k,_=>.inr λp hp q hq=>by rw[zR.mp hp,zR.mp hq]
 | k1::r,k,h=>by
  obtain⟨h1,h2⟩:=za.mp h;have kk:=h1 k1 zF;have low:∀p∈k1::r,k1<=p:=λp hp=>by
   rcases zG.mp hp with rfl|hp
   ·exact yE _
   ·exact yg ((za.mp h2).1 p hp)
  by_cases a:x<=k
  ·refine .inr λp hp q hq=>?_
   have:∀p∈k::k1::r,chi x p=1:=λp hp=>by
    unfold chi;rcases zG.mp hp with rfl|hp
    ·rw[vH a]
    ·have:=low p hp;rw[lf]
   rw[this p hp,this q hq]
  ·by_cases b:x<=k1
   ·refine .inl ⟨(k,k1),by rw[q1z];exact zF,by simp only;omega,b,λc=>?_⟩
    have c0:chi x k1-chi x k=1:=by unfold chi;rw[vH b,vJ a];rfl
    have z:((Y7 (k1::r)).map λg=>c g*eQ).sum=0:=by
     have:∀g∈Y7 (k1::r),c g*eQ=0:=λg hg=>by
      obtain⟨m1,m2⟩:=q1G hg;have:=low _ m1;have:=low _ m2;unfold chi;rw[lf,lf,Zb,wf]
     rw[yR this];clear this
     induction Y7 (k1::r)with
     | nil=>rfl
     | cons g gs ih=>rw[zZ,z8,ih];rfl
    rw[q1z,zZ,z8,z];simp only[c0];omega
   ·have c0:chi x k1-chi x k=0:=by unfold chi;rw[vJ b,vJ a];rfl
    rcases q99 x r k1 h2 with⟨g,hg,g1,g2,g3⟩|h3
    ·refine .inl ⟨g,by rw[q1z];exact zH _ hg,g1,g2,λc=>?_⟩
     rw[q1z,zZ,z8,g3];simp only[c0];omega
    ·refine .inr λp hp q hq=>?_
     have e:∀p∈k::k1::r,chi x p=chi x k1:=λp hp=>by
      rcases zG.mp hp with rfl|hp
      ·omega
      ·exact h3 p hp k1 zF
     rw[e p hp,e q hq]
noncomputable def repA(c:Int)(g:bo):List bo:=zk c.toNat Qm++zk (-c).toNat Ql
theorem q45(c:Int):∀n:Nat,(zk n c).sum=n*c
 | 0=>by simp
 | n+1=>by rw[yU,z8,q45 c n];rw[show ((n+1:Nat):Int)=cR+1 by omega,Int.add_mul];omega
theorem qfi(x c:Int)(g:bo):flw x (repA c g)=c*eQ:=by
 unfold repA;rw[q2V];unfold flw;rw[xp,xp,q45,q45];rcases Int.le_total 0 c with z|z
 ·rw[show (-c).toNat=0 by omega,wT z];simp
 ·rw[show c.toNat=0 by omega,wT (show 0 <= -c by omega)]
  simp only[Yd,Int.zero_mul,Int.zero_add];rw[show chi x g.1-chi x g.2=-eQ by omega,Int.neg_mul_neg]
theorem qfI{c:Int}{g:bo}(h:g.1<g.2):((repA c g).map λa=>WJ a.1 a.2).sum=Ab*zAP c:=by
 unfold repA WJ zAP;rw[zW,xt,xp,xp,q45,q45];simp only;rw[iW,lf]
 by_cases z:c<0
 ·rw[iP,show c.toNat=0 by omega,wT (show 0 <= -c by omega)]
  simp;rw[show g.2-g.1=-(g.1-g.2) by omega,Int.mul_comm]
 ·rw[iw,show (-c).toNat=0 by omega,wT (show 0<=c by omega),Int.mul_comm];simp
noncomputable def Wy(c:j9)(G:ae):List bo:=G.flatMap λg=>repA (c g) g
theorem q9t(x:Int)(c:j9):∀G:List bo,flw x (Wy c G)=(G.map λg=>c g*eQ).sum
 | []=>rfl
 | g::G=>by
  show flw x (repA (c g) g++Wy c G)=_;rw[q2V,qfi,q9t x c G,zZ,z8]
theorem q9p(c:j9):∀G:List bo,(∀g∈G,g.1<g.2)->((Wy c G).map λa=>WJ a.1 a.2).sum=(G.map λg=>Ab*zAP (c g)).sum
 | [],_=>rfl
 | g::G,h=>by
  show ((repA (c g) g++Wy c G).map λa=>WJ a.1 a.2).sum=_;rw[zW,xt,qfI (h g zF),q9p c G λx hx=>h x lN,zZ,z8]
theorem qfs{c:j9}{G:ae}{g:bo}(hg:g∈G)(hc:c g≠0):Qm∈Wy c G\/Ql∈Wy c G:=by
 unfold Wy repA;rcases Int.lt_or_gt_of_ne hc with z|z
 ·refine .inr (xj.mpr ⟨g,hg,zS _ (wW.mpr QH)⟩)
 ·refine .inl (xj.mpr ⟨g,hg,zV _ (wW.mpr QH)⟩)
theorem qjg{c:j9}{G:ae}{a:bo}(h:a∈Wy c G):∃g∈G,a=Qm\/a=Ql:=by
 obtain⟨g,hg,h⟩:=xj.mp h;rcases zK.mp h with h|h
 ·exact⟨g,hg,.inl (wW.mp h).2⟩
 ·exact⟨g,hg,.inr (wW.mp h).2⟩
noncomputable def twoA(F:ae):List bo:=F.flatMap λe=>Dp
theorem q9l(x:Int):∀F:List bo,flw x (twoA F)=0
 | []=>rfl
 | e::F=>by
  show flw x (Dp++twoA F)=0;rw[q2V,q9l x F,q3q,q3q];unfold flw;simp only[yr,YR];omega
theorem q9v:∀F:List bo,(∀g∈F,g.1<g.2)->((twoA F).map λa=>WJ a.1 a.2).sum=2*(F.map λg=>g.2-g.1).sum
 | [],_=>rfl
 | e::F,h=>by
  show ((Dp++twoA F).map λa=>WJ a.1 a.2).sum=_;have:=h e zF;rw[zW,xt,q9v F λx hx=>h x lN,zZ,z8];unfold WJ;simp only[zZ,yr,z8,YR];rw[iW,lf];omega
noncomputable def bI(b:Bool):Int:=if b=true then 1 else 0
theorem q8h(φ:cG):∀(r:af)(k:Int),((Y7 (k::r)).map λg=>φ g.2-φ g.1).sum=φ ((k::r).getLast (wp _ _))-φ k
 | [],k=>by show HM=φ k-φ k;omega
 | k1::r,k=>by
  rw[q1z,zZ,z8,q8h φ r k1,YS (wp k1 r)];simp only;omega
noncomputable def clp(p q y:Int):Int:=if y<=p then p else if q<=y then q else y
theorem q8a{k:Int}{r:af}(h:(k::r).Pairwise (· < ·)):∀p∈k::r,k<=p/\p<=(k::r).getLast (wp _ _):=by
 induction r generalizing k with
 | nil=>intro p hp;cases zR.mp hp;exact⟨yE _,yE _⟩
 | cons k1 r ih=>
  obtain⟨h1,h2⟩:=za.mp h;have:=h1 k1 zF;intro p hp;rw[YS (wp k1 r)];rcases zG.mp hp with rfl|hp
  ·exact⟨yE _,by have:=(ih h2 k1 zF).2;omega⟩
  ·exact⟨by have:=(ih h2 p hp).1;omega,(ih h2 p hp).2⟩
theorem qex{P:af}{p q:Int}(hP:P.Pairwise (· < ·))(hp:p∈P)(hq:q∈P)(h:p<=q)(G:∀g∈Y7 P,g.1<g.2/\Mu/\Ms):((Y7 P).map λg=>Ab*o8).sum=q-p:=by
 have e:∀g∈Y7 P,Ab*o8=clp p q g.2-clp p q g.1:=λg hg=>by
  obtain⟨g0,g1,g2⟩:=G g hg;have o2:bI Q7=0:=by
   unfold bI over;rw[vJ];rw[yP,decide_eq_true_eq,decide_eq_true_eq];omega
  rw[o2,YO]
  by_cases z:p<=g.1/\g.2<=q
  ·have o1:bI JW=1:=by
    unfold bI over;rw[vH];rw[yP,decide_eq_true_eq,decide_eq_true_eq];exact z
   rw[o1,Int.mul_one];unfold clp
   split <;> split <;> (try split) <;> (try split) <;> omega
  ·have o1:bI JW=0:=by
    unfold bI over;rw[vJ];rw[yP,decide_eq_true_eq,decide_eq_true_eq];exact z
   rw[o1,wf];unfold clp
   split <;> split <;> (try split) <;> (try split) <;> omega
 rw[yR e];cases P with
 | nil=>cases hp
 | cons k r=>
  have e1:=q8a hP p hp;have e2:=q8a hP q hq;rw[q8h (clp p q) r k];unfold clp
  split <;> split <;> (try split) <;> (try split) <;> omega
theorem qhg{P:af}{p q:Int}(hP:P.Pairwise (· < ·))(hp:p∈P)(hq:q∈P)(G:∀g∈Y7 P,g.1<g.2/\Mu/\Ms):((Y7 P).map λg=>Ab*o8).sum=WJ p q:=by
 unfold WJ;rcases Int.le_total p q with z|z
 ·rw[qex hP hp hq z G,iW]
 ·have:=qex hP hq hp z λg hg=>⟨(G g hg).1,(G g hg).2.2,(G g hg).2.1⟩
  rw[yR (g:=λg=>Ab*(bI Q7+bI JW)) λg _=>by rw[Int.add_comm (bI _)],this]
  split <;> omega
theorem q6j{α:Type}(f f':nj):∀xs:List α,(xs.map λx=>f x+f' x).sum=(xs.map f).sum+(xs.map f').sum
 | []=>rfl
 | x::xs=>by rw[zZ,zZ,zZ,z8,z8,z8,q6j f f' xs];omega
theorem q9d(b:bo)(bs:ae)(g:bo):rts (b::bs) g=bI (over b.1 b.2 g)+rts bs g/\lfs (b::bs) g=bI (over b.2 b.1 g)+lfs bs g:=by
 unfold rts lfs bI;rw[yQ,yQ]
 constructor
 ·split <;> simp <;> omega
 ·split <;> simp <;> omega
theorem q87{P:af}{h l:Int}(hP:P.Pairwise (· < ·)):∀bs:List bo,(∀b∈bs,b.1∈P/\b.2∈P)->(∀g∈Y7 P,Gap h l bs g)->(bs.map λb=>WJ b.1 b.2).sum=((Y7 P).map λg=>Ab*(rts bs g+lfs bs g)).sum
 | [],_,_=>by
  have:∀g∈Y7 P,Ab*(rts [] g+lfs [] g)=0:=λg _=>wf _;rw[yR this];show HM=_;clear this
  induction Y7 P with
  | nil=>rfl
  | cons g gs ih=>rw[zZ,z8,<- ih];rfl
 | b::bs,m,G=>by
  have ih:=q87 hP bs (λx hx=>m x lN) λg hg=>⟨(G g hg).lt,(G g hg).h,(G g hg).l,λx hx=>(G g hg).b x lN⟩;have w:=qhg hP (m b zF).1 (m b zF).2 λg hg=>⟨(G g hg).lt,(G g hg).b b zF⟩;rw[zZ,z8,ih,<- w,<- q6j]
  congr 1
  refine yR λg _=>?_;rw[(q9d b bs g).1,(q9d b bs g).2,<- Ye]
  congr 1;omega
theorem qgo{l m:af}(hl:l.Pairwise (· < ·))(hm:m.Pairwise (· < ·))(h:∀c,c∈l↔c∈m):l=m:=by
 have n1:l.Nodup:=hl.imp λ{a b} z=>Za z;have n2:m.Nodup:=hm.imp λ{a b} z=>Za z;exact q0H (hl.imp λ{a b} z=>yg z) (hm.imp λ{a b} z=>yg z) ((wH n1 n2).mpr h)
theorem Cls.least{ts:af}{es:ae}{g:af}{a:Int}(c:Rv):∀x∈g,a<=x:=λx hx=>by
 have hh:=c.hd;have up:=c.up;cases g with
 | nil=>cases hx
 | cons b r=>
  cases hh;rcases zG.mp hx with rfl|y
  ·exact yE _
  ·exact yg ((za.mp up).1 x y)
theorem GS.heads{ts:af}{es:ae}{gs:bP}{hs:af}(h:nX)(all:∀t∈ts,∃g∈gs,t∈g)(a:Int):a∈hs↔(a∈ts/\∀c,Rch es a c->a<=c):=by
 constructor
 ·intro ha
  obtain⟨j,hj,rfl⟩:=zY.mp ha;have hj2:j<gs.length:=by rw[h.len];exact hj
  have cl:=h.cls j _ _ Gv B9;exact⟨cl.inn,λc r=>cl.least c ((cl.mem c).mpr r)⟩
 ·rintro⟨h1,h2⟩
  obtain⟨g,hg,hag⟩:=all a h1;obtain⟨b,hb,cl⟩:=h.one hg;have l1:=cl.least a hag;have r:=(cl.mem a).mp hag;have l2:=h2 b r.symm;have:a=b:=∅
  rw[this];exact hb
theorem GS.uniq{ts:af}{es:ae}{gs gs':bP}{hs hs':af}(h:nX)(all:∀t∈ts,∃g∈gs,t∈g)(h':GS ts es gs' hs')(all':∀t∈ts,∃g∈gs',t∈g):gs=gs':=by
 have eh:hs=hs':=qgo h.up h'.up λc=>by rw[h.heads all,h'.heads all']
 subst eh;apply yt;intro j;rcases zz j hs.length with z|z
 ·have z1:j<gs.length:=by rw[h.len];exact z
  have z2:j<gs'.length:=by rw[h'.len];exact z
  have c1:=h.cls j _ _ (zA z1) (zA z);have c2:=h'.cls j _ _ (zA z2) (zA z);rw[zA z1,zA z2,qgo c1.up c2.up λc=>by rw[c1.mem,c2.mem]]
 ·rw[zu (by rw[h.len];exact z),zu (by rw[h'.len];exact z)]
theorem Rch.mono{es fs:ae}{a c:Int}(h:∀e∈es,e∈fs)(r:adk):Rch fs a c:=by
 induction r with
 | refl=>exact .refl
 | step _ e ih=>exact ih.step (e.elim (λz=>.inl (h _ z)) λz=>.inr (h _ z))
noncomputable def X1(f:cG)(a b:Int):Int->Int:=λx=>if f x=b then a else f x
def Tells(ts:af)(es:ae)(f:cG):Prop:=∀x∈ts,∀y∈ts,f x=f y↔Rch es x y
theorem Tells.skip{ts:af}{es:ae}{f:cG}(h:Jw){p q:Int}(hp:p∈ts)(hq:q∈ts)(e:f p=f q):Tells ts Ij f:=by
 intro x hx y hy;rw[h x hx y hy];have pq:=(h p hp q hq).mp e;refine⟨λr=>r.mono λe he=>zV _ he,λr=>?_⟩;refine Rch.inv (λz=>Rch es x z) .refl Vo r;have key:∀{u v:Int},(u,v)∈es++[(p,q)]->Rch es u v:=λ{u v} m=>by
  rcases zK.mp m with m|m
  ·exact Rch.refl.step (.inl m)
  ·cases zR.mp m;exact pq
 rcases hbc with m|m
 ·exact hb.trans (key m)
 ·exact hb.trans (key m).symm
theorem Tells.join{ts:af}{es:ae}{f:cG}(h:Jw)(inn:∀e∈es,e.1∈ts/\e.2∈ts){p q:Int}(hp:p∈ts)(hq:q∈ts):Tells ts Ij aah:=by
 intro x hx y hy;have up:∀{u v:Int},Rch es u v->Rch Ij u v:=λr=>r.mono λe he=>zV _ he;have pq:Rch Ij p q:=Rch.refl.step (.inl (by simp))
 constructor
 ·intro e
  unfold X1 at e
  by_cases h1:f x=f q
  ·rw[Qc]at e
   by_cases h2:f y=f q
   ·exact up ((h x hx y hy).mp (by rw[h1,h2]))
   ·rw[vJ h2]at e
    exact((up ((h x hx q hq).mp h1)).trans pq.symm).trans (up ((h p hp y hy).mp e))
  ·rw[vJ h1]at e
   by_cases h2:f y=f q
   ·rw[vH h2]at e
    exact((up ((h x hx p hp).mp e)).trans pq).trans (up ((h q hq y hy).mp h2.symm))
   ·rw[vJ h2]at e
    exact up ((h x hx y hy).mp e)
 ·intro r
  have key:∀{u v:Int},(u,v)∈es++[(p,q)]->u∈ts/\v∈ts/\X1 f (f p) (f q) u=X1 f (f p) (f q) v:=λ{u v} m=>by
   rcases zK.mp m with m|m
   ·obtain⟨a,b⟩:=inn _ m
    have e:=(h u a v b).mpr (Rch.refl.step (.inl m));exact⟨a,b,by unfold X1;rw[e]⟩
   ·cases zR.mp m
    refine⟨hp,hq,?_⟩;unfold X1;rw[lg]
    by_cases z:f p=f q
    ·rw[iP]
    ·rw[iw]
  exact(Rch.inv (λz=>z∈ts/\X1 f (f p) (f q) x=X1 f (f p) (f q) z) ⟨hx,rfl⟩ (λb c hb hbc=>by
   rcases hbc with m|m
   ·obtain⟨a1,a2,a3⟩:=key m;exact⟨a2,hb.2.trans a3⟩
   ·obtain⟨a1,a2,a3⟩:=key m;exact⟨a1,hb.2.trans a3.symm⟩) r).2
noncomputable def zDH(f:cG)(ts:af)(a:Int):Bool:=ts.all λc=>f c != f a || decide (a<=c)
noncomputable def many(f:cG)(ts:af):Nat:=(ts.filter (zDH f ts)).length
theorem q2j{f:cG}{ts:af}{a:Int}:zDH f ts a=true↔∀c∈ts,f c=f a->a<=c:=by
 unfold zDH;rw[wM]
 constructor
 ·intro h c hc e
  have:=h c hc;simp[e]at this;exact this
 ·intro h c hc
  by_cases e:f c=f a
  ·simp[h c hc e]
  ·simp[e]
theorem q43{l m:af}(h1:l.Nodup)(h2:m.Nodup)(h:∀c,c∈l↔c∈m):l.length=m.length :=
 Nat.le_antisymm (q1f h1 λc hc=>(h c).mp hc) (q1f h2 λc hc=>(h c).mpr hc)
theorem q9O{l:af}(h:l.Pairwise (· < ·)):l.Nodup:=h.imp λa b=>∅
theorem GS.many{ts:af}{es:ae}{gs:bP}{hs:af}(ok:EH)(h:nX)(all:∀t∈ts,∃g∈gs,t∈g){f:cG}(t:Jw):gs.length=Kx.many f ts:=by
 rw[h.len];refine q43 (q9O h.up) (ok.nd.filter _) λa=>?_;rw[h.heads all,yL,q2j];refine and_congr_right λha=>?_
 constructor
 ·intro k c hc e
  exact k c ((t a ha c hc).mp e.symm)
 ·intro k c r
  have hc:=r.mem ok ha;exact k c hc ((t a ha c hc).mpr r).symm
theorem q8S{ts:af}(P:Int->Prop)[DecidablePred P]{p:Int}(hp:p∈ts)(h:P p):∃a∈ts,P a/\∀c∈ts,P c->a<=c:=by
 induction ts with
 | nil=>cases hp
 | cons t r ih=>
  by_cases z:∃x∈r,P x
  ·obtain⟨x,hx,px⟩:=z
   have ih':∃a∈r,P a/\∀c∈r,P c->a<=c:=by
    clear ih hp
    induction r generalizing x with
    | nil=>cases hx
    | cons u r ih2=>
     by_cases y:∃w∈r,P w
     ·obtain⟨w,hw,pw⟩:=y
      obtain⟨a,a1,a2,a3⟩:=ih2 w hw pw
      by_cases pu:P u
      ·by_cases l:u<=a
       ·exact⟨u,zF,pu,λc hc pc=>(zG.mp hc).elim (λe=>by rw[e];exact yE _) λhc=>ye l (a3 c hc pc)⟩
       ·exact⟨a,zH _ a1,a2,λc hc pc=>(zG.mp hc).elim (λe=>by rw[e];omega) λhc=>a3 c hc pc⟩
      ·exact⟨a,zH _ a1,a2,λc hc pc=>(zG.mp hc).elim (λe=>vP (e▸pc) pu) λhc=>a3 c hc pc⟩
     ·have pu:P u:=(zG.mp hx).elim (λe=>e▸px) λhx=>vP ⟨x,hx,px⟩ y
      exact⟨u,zF,pu,λc hc pc=>(zG.mp hc).elim (λe=>by rw[e];exact yE _) λhc=>vP ⟨c,hc,pc⟩ y⟩
   obtain⟨a,a1,a2,a3⟩:=ih'
   by_cases pt:P t
   ·by_cases l:t<=a
    ·exact⟨t,zF,pt,λc hc pc=>(zG.mp hc).elim (λe=>by rw[e];exact yE _) λhc=>ye l (a3 c hc pc)⟩
    ·exact⟨a,zH _ a1,a2,λc hc pc=>(zG.mp hc).elim (λe=>by rw[e];omega) λhc=>a3 c hc pc⟩
   ·exact⟨a,zH _ a1,a2,λc hc pc=>(zG.mp hc).elim (λe=>vP (e▸pc) pt) λhc=>a3 c hc pc⟩
  ·have pt:P t:=(zG.mp hp).elim (λe=>e▸h) λhx=>vP ⟨p,hx,h⟩ z
   exact⟨t,zF,pt,λc hc pc=>(zG.mp hc).elim (λe=>by rw[e];exact yE _) λhc=>vP ⟨c,hc,pc⟩ z⟩
theorem qat{l:af}(hn:l.Nodup){P Q:Int->Bool}{m:Int}(hm:m∈l)(pm:P m=true)(h:∀c∈l,Q c=(P c&&c != m)):(l.filter Q).length+1=(l.filter P).length:=by
 induction l with
 | nil=>cases hm
 | cons a r ih=>
  obtain⟨n1,n2⟩:=yx.mp hn;rw[yQ,yQ,h a zF]
  by_cases e:a=m
  ·subst e
   have:r.filter Q=r.filter P:=List.filter_congr λc hc=>by
    rw[h c acr];have:(c != a)=true:=by simp;intro z;exact n1 (z▸hc)
    rw[this,ZO]
   simp[pm,this]
  ·have hm':m∈r:=(zG.mp hm).elim Vi id
   have ih':=ih n2 hm' λc hc=>h c acr;have e':(a != m)=true:=by simpa using e
   rw[e',ZO];cases P a with
   | true=>simp;omega
   | false=>simpa using ih'
theorem qd3{ts:af}{f:cG}(hn:ts.Nodup){p q:Int}(hp:p∈ts)(hq:q∈ts)(ne:f p≠f q):many aah ts+1=many f ts:=by
 obtain⟨a,a1,a2,a3⟩:=q8S (λc=>f c=f p) hp rfl;obtain⟨b,b1,b2,b3⟩:=q8S (λc=>f c=f q) hq rfl;have ab:a≠b:=λz=>ne (by rw[<- a2,<- b2,z]);have hmax:max a b=a\/max a b=b:=∅
 have la:zDH f ts a=true:=q2j.mpr λc hc e=>a3 c hc (by rw[e,a2]);have lb:zDH f ts b=true:=q2j.mpr λc hc e=>b3 c hc (by rw[e,b2]);refine qat hn (m:=max a b) (hmax.elim (λz=>by rw[z];exact a1) λz=>by rw[z];exact b1) (hmax.elim (λz=>by rw[z];exact la) λz=>by rw[z];exact lb) λc hc=>?_;rw[Bool.eq_iff_iff,yP,q2j,q2j,bne_iff_ne];have jf:∀x,X1 f (f p) (f q) x=if f x=f q then f p else f x:=λ_=>rfl
 constructor
 ·intro h
  refine⟨λd hd e=>h d hd (by rw[jf,jf,e]),Fq⟩;rcases hmax with y|y
  ·have:=h b b1 (by rw[jf,jf,vH b2,z,y,a2,vJ ne])
   omega
  ·have:=h a a1 (by rw[jf,jf,a2,vJ ne,z,y,vH b2])
   omega
 ·rintro⟨h1,h2⟩ d hd e
  rw[jf,jf]at e
  by_cases y1:f d=f q
  ·rw[vH y1]at e
   by_cases y2:f c=f q
   ·exact h1 d hd (by rw[y1,y2])
   ·rw[vJ y2]at e
    have c1:=h1 a a1 (by rw[a2,e]);have c2:=a3 c hc e.symm;have c3:=b3 d hd y1;omega
  ·rw[vJ y1]at e
   by_cases y2:f c=f q
   ·rw[vH y2]at e
    have c1:=h1 b b1 (by rw[b2,y2]);have c2:=b3 c hc y2;have c3:=a3 d hd e;omega
   ·rw[vJ y2]at e
    exact h1 d hd e
noncomputable abbrev Eg:=Int×Int×Int
noncomputable def WL(e:Eg):Int×Int:=(e.1,e.2.1)
noncomputable def XR(e:Eg):Int:=e.2.2
noncomputable def zAx(s:cG×List Eg)(e:Eg):cG×List Eg:=if s.1 e.1=s.1 e.2.1 then s else (X1 s.1 (s.1 e.1) (s.1 e.2.1),s.2++[e])
noncomputable def Xq(f:cG)(es:gU):cG×List Eg:=es.foldl zAx (f,[])
theorem q2x(f:cG)(es:gU)(e:Eg):Xq f (es++[e])=zAx (Xq f es) e:=by unfold Xq;rw[wG];rfl
theorem q1o{α:Type}{P:List α->Prop}(h0:P [])(hs:∀l a,P l->P (l++[a]))(l:bH):P l:=by
 have:∀l:List α,P l.reverse:=λl=>by
  induction l with
  | nil=>exact h0
  | cons a r ih=>rw[ZL];exact hs _ _ ih
 have:=this l.reverse
 rwa [xS]at this
theorem q6O{ts:af}{kn:ae}{f:cG}(hn:ts.Nodup)(h:Jv)(inn:∀e∈kn,e.1∈ts/\e.2∈ts)(es:gU):(∀e∈es,e.1∈ts/\e.2.1∈ts)->Tells ts Mv (Xq f es).1/\many (Xq f es).1 ts+(Xq f es).2.length=many f ts:=by
 refine q1o (P:=λes=>(∀e∈es,e.1∈ts/\e.2.1∈ts)->Tells ts Mv (Xq f es).1/\many (Xq f es).1 ts+(Xq f es).2.length=many f ts) (λ_=>⟨by rw[yr,zx];exact h,rfl⟩) aaD es;obtain⟨h1,h2⟩:=ih λx hx=>he x (zV _ hx);obtain⟨p1,p2⟩:=he e (by simp);have inn':∀x∈kn++l.map WL,x.1∈ts/\x.2∈ts:=λx hx=>by
  rcases zK.mp hx with m|m
  ·exact inn x m
  ·obtain⟨y,hy,rfl⟩:=zi.mp m
   exact he y (zV _ hy)
 rw[q2x,zW,<- zM];unfold zAx
 by_cases z:(Xq f l).1 e.1=(Xq f l).1 e.2.1
 ·rw[iP]
  exact⟨h1.skip p1 p2 z,h2⟩
 ·rw[iw]
  refine⟨h1.join inn' p1 p2,?_⟩;have:=qd3 hn p1 p2 z;show many (X1 _ _ _) ts+((Xq f l).2++[e]).length=_;rw[zD,zT];omega
theorem qeW(f:cG)(as bs:gU):∃r,(Xq f (as++bs)).2=(Xq f as).2++r/\∀e∈r,e∈bs:=by
 refine q1o (P:=λbs=>∃r,(Xq f (as++bs)).2=(Xq f as).2++r/\∀e∈r,e∈bs) ⟨[],by simp⟩ (λl e Z_=>?_) bs;obtain⟨r,h1,h2⟩:=Z_;rw[<- zM,q2x];unfold zAx
 by_cases z:(Xq f (as++l)).1 e.1=(Xq f (as++l)).1 e.2.1
 ·rw[iP]
  exact⟨r,h1,λx hx=>zV _ (h2 x hx)⟩
 ·rw[iw]
  refine⟨r++[e],by show (Xq f (as++l)).2++[e]=_;rw[h1,zM],λx hx=>?_⟩;rcases zK.mp hx with m|m
  ·exact zV _ (h2 x m)
  ·exact zS _ m
theorem q3r(f:cG)(es:gU):(Xq f es).2.Sublist es:=by
 refine q1o (P:=λes=>(Xq f es).2.Sublist es) (YT _) (λl e ih=>?_) es;rw[q2x];unfold zAx
 split
 ·exact ih.trans (List.sublist_append_left _ _)
 ·exact ih.append (YT _)
noncomputable def egD(e:Eg):D:=.tup Px
theorem q3d(e:Eg):q0c [egD e]=↥(.int (XR e)):=rfl
theorem qeg(e:Eg):zBv q0c (egD e)=XR e:=by unfold zBv;rw[q3d]
theorem qcp(e:Eg):keyOk q0c (egD e)=true:=by unfold keyOk;rw[q3d]
theorem qde(es:gU):XX (zBv q0c) (es.map egD)=(XX XR es).map egD:=by
 rw[q2p,q3Q λx _=>qeg x]
noncomputable def zAT(f:cG)(ks:af):List D:=ks.map λk=>.int (f k)
theorem q4x{f:cG}:∀{ks:af}{x:Int},x∈ks->Xc ks Nv x=some (.int (f x))
 | [],_,h=>by cases h
 | k::ks,x,h=>by
  by_cases e:k=x
  ·subst e
   show (if k=k then some (D.int (f k))else Xc ks Nv k)=_;rw[lg]
  ·show (if k=x then some (D.int (f k))else Xc ks Nv x)=_
   rw[vJ e];exact q4x ((zG.mp h).elim Vi id)
theorem qjs{f:cG}{ks:af}{a b:Int}(hn:ks.Nodup)(hl:ks.length<1000):q00 [nK,cB,eu]=↥(.dic ks (zAT IZ ks)):=by
 unfold q00 q1j;obtain⟨ω',e,x4,rfl⟩:=q0a (g:=gN 4) (b:=q1c) D.int ks
  (λpre ω=>∃x4:Option W,ω=[↥nK,↥cB,↥eu,some (.od pre (zAT IZ pre)),x4])
  (λpre k post ω hd Z_=>by
   obtain⟨x4,hω⟩:=Z_;subst hω;refine dv;have hk:k∈ks:=by rw[hd];simp
   have hnk:k∉pre:=λz=>by
    rw[hd]at hn;exact(yl.mp hn).2.2 k z k (by simp) rfl
   have hp:pre.length<ks.length:=by rw[hd,zD,zJ];omega
   have hv:=q4x (f:=f) hk;have hds:pre.length<1000000:=∅
   obtain⟨p1,p2⟩:=qbN (xs:=zAT IZ pre) (D.int (X1 f a b k)) hnk;have ev:zAT IZ (pre++[k])=zAT IZ pre++[.int (X1 f a b k)]:=by unfold zAT;rw[zW];rfl
   unfold q1c
   by_cases z:f k=b
   ·have z':(f k==b)=true:=by simpa using z
    have jk:X1 f a b k=a:=vH z;rw[jk]at p2 ev;simp_arith[hv,z',q48 hds,p1,p2];exact⟨_,by rw[ev]⟩
   ·have z':(f k==b)=false:=by simpa using z
    have jk:X1 f a b k=f k:=vJ z;rw[jk]at p2 ev;simp_arith[hv,z',q48 hds,p1,p2];exact⟨_,by rw[ev]⟩)
  (ω:=[↥nK,↥cB,↥eu,nv,none]) GH
 simp_arith[e]
noncomputable def zA7(ks:af)(vs:aY)(x:Int):Int:=match Xc ks vs x with
 | some (.int i)=>i
 | _=>0
theorem qbw:∀{ks:af}{vs:aY},ks.Nodup->ks.length=vs.length->(∀v∈vs,∃i:Int,v=.int i)->vs=zAT (zA7 ks vs) ks
 | [],[],_,_,_=>rfl
 | [],_::_,_,h,_=>by simp at h
 | _::_,[],_,h,_=>by simp at h
 | k::ks,v::vs,hn,hl,hv=>by
  obtain⟨n1,n2⟩:=yx.mp hn;obtain⟨i,rfl⟩:=hv v zF;have ih:=qbw n2 ⇑hl λu hu=>hv u (zH _ hu);have e1:zA7 KA Kl k=i:=by
   unfold zA7;show (match (if k=k then some (D.int i)else Xc ks vs k)with|some (.int i)=>i|_=>0)=i;rw[lg]
  have e2:∀x∈ks,zA7 KA Kl x=zA7 ks vs x:=λx hx=>by
   unfold zA7;have:Xc KA (D.int i::vs) x=Xc ks vs x:=vJ (λz:k=x=>by subst z;exact n1 hx);rw[this]
  show D.int i::vs=D.int (zA7 KA Kl k)::ks.map _;rw[e1]
  congr 1
  have:ks.map (λk'=>D.int (zA7 KA Kl k'))=zAT (zA7 ks vs) ks:=by
   unfold zAT;exact yR λx hx=>by rw[e2 x hx]
  rw[this];exact ih
theorem qhc:∀(ps:TX),∀v∈vvP ps,∃i:Int,v=.int i:=λps v hv=>by
 unfold vvP at hv;obtain⟨p,_,h⟩:=xj.mp hv;obtain⟨_,_,rfl⟩:=zi.mp h;exact bD
theorem qfl{ts:af}{kn:ae}(ok:PM):∃(gs:bP) (ks:af) (f:cG),q1r [aw,dl]=some (.fr l7)/\qQ [bS]=↥nK/\ks.Nodup/\(∀x,x∈ks↔x∈ts)/\ks.length<64/\Tells ts kn f:=by
 obtain⟨gs,hs,g1,g2,g3,g4⟩:=q83 ok;have pf:=g2.flat ok g3;have nd:gs.flatten.Nodup:=pf.nodup_iff.mpr ok.nd;have fl:gs.flatten.length<64:=by rw[pf.length_eq];exact ok.l1
 have nm:=q6X nd fl;have kk:=q5H 0 gs;have lv:=qbw (ks:=kkP fO) (vs:=vvP fO) (by rw[kk];exact nd) (qeE _) (qhc _);refine⟨gs,kkP fO,zA7 Gy Gx,g1,by rw[<- lv];exact nm,by rw[kk];exact nd,λx=>by rw[kk];exact pf.mem_iff,by rw[kk];exact fl,λx hx y hy=>?_⟩;obtain⟨gx,mx,hxg⟩:=g3 x hx;obtain⟨gy,my,hyg⟩:=g3 y hy;obtain⟨i,hi⟩:=xK.mp mx;obtain⟨j,hj⟩:=xK.mp my;have vx:=q52 (k:=0) nd hi hxg;have vy:=q52 (k:=0) nd hj hyg;have fx:zA7 Gy Gx x=adJ:=by unfold zA7;rw[vx]
 have fy:zA7 Gy Gx y=((0+j:Nat):Int):=by unfold zA7;rw[vy]
 rw[fx,fy];obtain⟨a,_,cx⟩:=g2.one mx;obtain⟨b,_,cy⟩:=g2.one my
 constructor
 ·intro e
  have:i=j:=∅
  subst this;rw[hi]at hj;cases hj;exact((cx.mem x).mp hxg).symm.trans ((cx.mem y).mp hyg)
 ·intro r
  have:y∈gx:=(cx.mem y).mpr (((cx.mem x).mp hxg).trans r);have:=g2.apart hi hj this hyg;rw[this]
theorem qdd{ts:af}{kn:ae}{es:gU}(ok:PM)(he:∀e∈es,e.1∈ts/\e.2.1∈ts)(hl:EU):∃f:Int->Int,Tells ts kn f/\qS Pw=some Nh:=by
 obtain⟨gs,ks,f,g1,g2,nd,mem,lk,tl⟩:=qfl ok;refine⟨f,tl,?_⟩;unfold qS q5V;have sk:=qk0 (m:=q0c) (ds:=es.map egD) (by rw[zB];exact hl) (λd hd=>by obtain⟨e,_,rfl⟩:=zi.mp hd;exact qcp e);rw[qde]at sk;have pm:=q0l (f:=XR) (l:=es);have hS:∀e∈XX XR es,e.1∈ts/\e.2.1∈ts:=λe h=>he e aaR;have lS:(XX XR es).length=es.length:=pm.length_eq;generalize XX XR es=S at sk hS lS;simp_arith[g1,g2,sk];obtain⟨ω',e,x5,x6,x7,rfl⟩:=q0a (g:=gN 5) (b:=q5i) egD S
  (λpre ω=>∃(x5 x6 x7:dh),ω=[↥aw,↥dl,↥dY,↥(.dic ks (zAT (Xq f pre).1 ks)),some (.ow ((Xq f pre).2.map egD)),x5,x6,x7])
  (λpre e post ω hd Z_=>by
   obtain⟨x5,x6,x7,hω⟩:=Z_;subst hω;refine dv;obtain⟨m1,m2⟩:=hS e (by rw[hd];simp);have v1:=q4x (f:=(Xq f pre).1) ((mem e.1).mpr m1);have v2:=q4x (f:=(Xq f pre).1) ((mem e.2.1).mpr m2);have lp:((Xq f pre).2.map egD).length<1000000:=by
    have:=(q3r f pre).length_le;have:pre.length<=S.length:=by rw[hd,zD];omega
    rw[zB];omega
   have tw:=qjs (f:=(Xq f pre).1) (a:=(Xq f pre).1 e.1) (b:=(Xq f pre).1 e.2.1) nd ∅;have ed:egD e=.tup Px:=rfl;unfold q5i;rw[q2x];unfold zAx
   by_cases z:(Xq f pre).1 e.1=(Xq f pre).1 e.2.1
   ·have z':Go=true:=by simpa using z
    rw[iP];simp_arith[ed,v1,v2,z'];exact AX
   ·have z':Go=false:=by simpa using z
    rw[iw];simp_arith[ed,v1,v2,z',zCD lp,tw];exact⟨_,_,_,by rw[zW];rfl⟩)
  (ω:=[↥aw,↥dl,↥dY,↥nK,oO,none,none,none]) Db
 simp_arith[e]
theorem Tells.same{ts:af}{es es':ae}{f:cG}(h:Jw)(s:∀e,e∈es↔e∈es'):Tells ts es' f:=λx hx y hy=>(h x hx y hy).trans ⟨λr=>r.mono λe he=>(s e).mp he,λr=>r.mono λe he=>(s e).mpr he⟩
noncomputable def blw(b:Int)(e:Eg):Bool:=decide (XR e<b)
theorem q6H{b:Int}:∀{S:gU},S.Pairwise UB->S.filter iT++S.filter (λe=>!blw b e)=S
 | [],_=>rfl
 | e::S,h=>by
  obtain⟨h1,h2⟩:=za.mp h;cases hq:blw b e with
  | true=>rw[yu hq,yv (by rw[hq];decide),ZU,q6H h2]
  | false=>
   have:∀x∈S,blw b x=false:=λx hx=>by have:=h1 x hx;unfold blw at hq ⊢;simp at hq ⊢;omega
   rw[yv (by rw[hq];decide),yu (by rw[hq];rfl),wc.mpr λx hx=>by rw[this x hx];decide,yT,xF.mpr λx hx=>by rw[this x hx];rfl]
theorem qap{f:cG}{S:gU}{b:Int}(h:S.Pairwise UB):(Xq f Il).2=((Xq f S).2).filter iT:=by
 obtain⟨r,e,hr⟩:=qeW f Il (S.filter λe=>!blw b e);rw[q6H h]at e;have e1:(Xq f Il).2.filter iT=(Xq f Il).2:=xF.mpr λx hx=>(yL.mp ((q3r f _).subset hx)).2;have e2:r.filter iT=[]:=wc.mpr λx hx=>by have:=(yL.mp (hr x hx)).2;simpa using this
 rw[e,ZC,e1,e2,zx]
theorem q7g{ts:af}{kn:ae}(ok:PM)(hk:Hg){es:gU}(he:∀e∈es,e.1∈ts/\e.2.1∈ts)(hl:EU):Ok ts Mv:=⟨ok.nd,λe h=>by
 rcases zK.mp h with m|m
 ·exact ok.inn e m
 ·obtain⟨y,hy,rfl⟩:=zi.mp m
  exact he y hy,ok.l1,by rw[zD,zB];omega⟩
theorem q9A{kn:ae}{es:gU}(hk:Hg)(hl:EU):WC dl (.lst (es.map λe=>Y4 (WL e)))=some (.fr ((kn++es.map WL).map Y4)):=by
 rw[zW,yM];exact vH (by rw[zB,zB];omega)
theorem qfG{ts:af}{kn:ae}{es:gU}(ok:PM)(hk:Hg)(he:∀e∈es,e.1∈ts/\e.2.1∈ts)(hl:EU){f:cG}(tl:Jv)(b:Int):∃gs:List af,q0x [aw,dl,dY,eu]=some (.fr l7)/\gs.length+((Xq f BI).2.filter iT).length=many f ts/\gs.length<64/\(∃hs,GS ts Br gs hs/\∀t∈ts,∃g∈gs,t∈g):=by
 unfold q0x q2c;have cm:=q2P (i:=0) (c:=qZ) (f:=qY) iT egD abo es (ω:=[none,↥eu]) (λe _=>⟨by
   have c:=q3d e;unfold qZ;simp_arith[c];rfl,λ_=>by
   unfold qY egD;simp_arith[qV];rfl⟩)
 have hl2:(es.map egD).length<=1000000:=by rw[zB];omega
 have fl:(es.filter iT).length<=es.length:=yH _ _;have ad:=q9A (kn:=kn) (es:=es.filter iT) hk ∅;have he':∀e∈es.filter (blw b),e.1∈ts/\e.2.1∈ts:=λe h=>he e (yL.mp h).1;have ok':=q7g ok hk he' ∅;obtain⟨gs,hs,g1,g2,g3,g4⟩:=q83 ok';refine⟨gs,by simp_arith[Qr,inW,Wa,cm,ad,g1],?_,by have:=ok.l1;omega,hs,g2,g3⟩;have pm:=q0l (f:=XR) (l:=es);have kt:=q6O ok.nd tl ok.inn RG (λe h=>he e (pm.mem_iff.mp (yL.mp h).1));have t2:Tells ts Br (Xq f RG).1:=kt.1.same λe=>by
  rw[zK,zK,((pm.filter iT).map WL).mem_iff]
 rw[GS.many ok' g2 g3 t2,<- qap q4H];exact kt.2
theorem qiy{ts:af}{es:ae}(h:EH):∃gs hs ω',qF bJ=some lT/\ω'[0]?=some hV/\ω'[4]?=some (some (.ow (gs.map gLD)))/\GS ts es gs hs/\(∀t∈ts,∃g∈gs,t∈g)/\gs.length<=ts.length:=by
 have hl1:=h.l1;obtain⟨gs,hs,x3,x5,x6,x7,e,i1,i2,i3⟩:=q9G h hV none;have nd:(nbT ts es).map gLD=nbD ts es:=rfl;refine⟨gs,hs,[hV,none,↥bL,x3,Q0,x5,x6,x7],?_,rfl,rfl,i1,i2,i3⟩;unfold qF;rw[nd];simp_arith[q7t hl1,e]
theorem qdv{ts:af}{kn:ae}{es:gU}(ok:PM)(hk:Hg)(he:∀e∈es,e.1∈ts/\e.2.1∈ts)(hl:EU){f:cG}(tl:Jv)(hf:qS Pw=some Nh):
  ∃rows:List cK,q0t Pw=some (.fr iZ)/\rows.map (·.1)=XU ((Xq f BI).2.map XR)/\(∀r∈rows,r.2.length+((Xq f BI).2.filter Lg).length=many f ts/\r.2.length<64/\(∃hs,GS ts (kn++(es.filter Lg).map WL) r.2 hs/\∀t∈ts,∃g∈r.2,t∈g))/\zCR q3I q1k q1l qF Pw rows:=by
 obtain⟨G,hG⟩:=Classical.axiomOfChoice (qfG ok hk he hl tl);have lS:(XX XR es).length=es.length:=q4V _ _;have lF:=(q3r f BI).length_le;generalize (Xq f BI).2=F at *;have cm:=qD (i:=0) (f:=q1F) egD (λe=>D.int (XR e)) F (ω:=KD) (λe _=>by
  have c:=q3d e;unfold q1F;simp_arith[c])
 have hl2:(F.map egD).length<=1000000:=by rw[zB];omega
 have ss:∀ω:WSt,(Xi 1 [] Sc iF Xj q1F) ω=some (.fr B1)->X9 kD ω=some (.fr Vb):=λω h=>by
  unfold X9 vOf;rw[h];show (intsOf B1).bind _=_;rw[show B1=(F.map XR).map D.int by rw[yM];rfl,q0J];exact vH (qed (by rw[zB];omega))
 have c1:=ss [↥aw,↥dl,↥dY,none] (by simp_arith[hf,Qr,inW,Wa,cm]);have sl:=q0Y lu;rw[zB]at sl;refine⟨(XU lu).map λb=>(b,G b),?_,by rw[yM];exact List.map_id _,λr hr=>?_,XU lu,[↥aw,↥dl,↥dY,↥(.lst Vb)],?_,λi d h=>?_,rfl,∅,zB ..,λj b r h1 h2=>?_⟩
 ·unfold q0t q6y
  have cm2:=qD (i:=0) (f:=q5f) D.int (λb=>WU (b,G b)) (XU lu) (ω:=[none,↥aw,↥dl,↥dY]) (λb _=>by
   have c:=(hG b).1;unfold q5f;simp_arith[c];rfl)
  have hl3:((XU lu).map D.int).length<=1000000:=by
   have:=q0Y lu;rw[zB]at this ⊢;omega
  rw[yM];simp_arith[c1,WZ hl3,inW,Wa,cm2];rfl
 ·obtain⟨b,_,rfl⟩:=zi.mp hr
  exact(hG b).2
 ·unfold q3I
  simp_arith[c1]
 ·match i,h with
  | 0,h=>cases h;rfl
  | 1,h=>cases h;rfl
  | 2,h=>cases h;rfl
  | i+3,h=>simp at h
 ·rw[zP,h1]at h2
  cases h2;have cm3:=q2P (i:=0) (c:=qZ) (f:=qY) iT egD abo es (ω:=[none,↥eu]) (λe _=>⟨by
    have c:=q3d e;unfold qZ;simp_arith[c];rfl,λ_=>by
    unfold qY egD;simp_arith[qV];rfl⟩)
  have hl4:(es.map egD).length<=1000000:=by rw[zB];omega
  have fl:(es.filter iT).length<=es.length:=yH _ _;have ad:=q9A (kn:=kn) (es:=es.filter iT) hk ∅;have ok':=q7g ok hk OE (show (es.filter iT).length<64 by omega);obtain⟨_,_,_,hs',G',all'⟩:=hG b;obtain⟨gs,hs,ω',g1,g2,g3,Gs,all,gl⟩:=qiy ok';have same:G b=gs:=G'.uniq all' Gs all;rw[<- same]at g3;have l1:=ok'.l1;refine⟨rfl,ts,Br,[↥aw,↥dl,↥dY,↥eu,some (.ow ((es.filter iT).map λe=>Y4 (WL e)))],?_,rfl,?_,⟨ok'.nd,ok'.inn,∅,ok'.l2⟩,ω',g1,g2,g3⟩
  ·unfold q1k
   simp_arith[WZ hl4,inW,Wa,cm3]
  ·unfold q1l
   simp_arith[ad]
noncomputable def wghK(k a:Int):List cK->Int
 | []=>0
 | r::rs=>Q5*(rW-k)+wghK k r.1 rs
noncomputable def ws(c:cG)(a:Int):List Int->Int
 | []=>0
 | b::C=>(b-a)*c b+ws c b C
theorem qgK{k:Int}{c:cG}:∀{rows:AT}{a:Int},(∀r∈rows,rW-k=c r.1)->wghK k a rows=ws c a (rows.map (·.1))
 | [],_,_=>rfl
 | r::rs,a,h=>by
  show Q5*(rW-k)+wghK k r.1 rs=Q5*c r.1+ws c r.1 (rs.map (·.1));rw[h r zF,qgK λx hx=>h x lN]
theorem qe9{c d:cG}:∀{C:af}{a:Int},ws adO a C=ws c a C-ws d a C
 | [],_=>rfl
 | b::C,a=>by
  show (b-a)*(c b-d b)+ws adO b C=Us-Ur;rw[qe9,Int.mul_sub];omega
theorem qet{c d:cG}:∀{C:af}{a:Int},ws adP a C=ws c a C+ws d a C
 | [],_=>rfl
 | b::C,a=>by
  show (b-a)*(c b+d b)+ws adP b C=Us+Ur;rw[qet,Ye];omega
theorem q7F{c:cG}:∀{C:af}{a:Int},(∀b∈C,c b=0)->ws c a C=0
 | [],_,_=>rfl
 | b::C,a,h=>by
  show (b-a)*c b+ws c b C=0;rw[h b zF,q7F λx hx=>h x lN,wf];rfl
theorem q9h{d:Int}:∀{C:af}{a:Int},ws (λ_=>d) a C=((C.getLast?).getD a-a)*d
 | [],a=>by show HM=(a-a)*d;rw[Zb,Int.zero_mul]
 | b::C,a=>by
  show (b-a)*d+ws (λ_=>d) b C=_;rw[q9h,List.getLast?_cons,Option.getD_some,<- Int.add_mul]
  congr 1;omega
theorem qcY{c:Int}:∀{C:af}{a:Int},C.Pairwise (· < ·)->c∈C->ws (λb=>if b<=c then 1 else 0) a C=c-a
 | b::C,a,h,m=>by
  obtain⟨h1,h2⟩:=za.mp h;show (b-a)*(if b<=c then 1 else 0)+ws (λb=>if b<=c then 1 else 0) b C=_;rcases zG.mp m with rfl|m
  ·rw[vH (yE _),q7F λx hx=>vJ (by have:=h1 x hx;omega)];omega
  ·have:=h1 c m
   rw[lf,qcY h2 m];omega
noncomputable def zC3(L:af)(b:Int):Int:=((L.filter λc=>decide (b<=c)).length:Int)
theorem qeJ{C:af}(h:C.Pairwise (· < ·)):∀{L:af},(∀c∈L,c∈C)->ws (zC3 L) 0 C=L.sum
 | [],_=>q7F λ_ _=>rfl
 | c::L,m=>by
  have e:zC3 (c::L)=λb=>(if b<=c then 1 else 0)+zC3 L b:=by
   funext b
   unfold zC3
   by_cases z:b<=c
   ·rw[iP,yu ⇑z,zJ];omega
   ·rw[iw,yv ⇑z];omega
  rw[e,qet,qcY h (m c zF),qeJ h λx hx=>m x lN,z8];omega
theorem qiP(F:gU)(b:Int):(F.length:Int)-((F.filter iT).length:Int)=zC3 lu b:=by
 unfold zC3
 induction F with
 | nil=>rfl
 | cons e F ih=>
  rw[zZ]
  by_cases z:XR e<b
  ·rw[yu (show blw b e=true by unfold blw;simpa using z),yv (by simp;omega),zJ,zJ,<- ih];omega
  ·rw[yv (show ¬blw b e=true by unfold blw;simpa using z),yu (by simp;omega),zJ,zJ]
   omega
theorem qd2{rows:AT}{F:gU}{N n:Nat}{d:Int}(h1:rows.map (·.1)=XU lu)(h2:∀r∈rows,r.2.length+(F.filter Lg).length=N)(h3:n+F.length=N):wghK (cR+d) 0 rows=(F.map XR).sum-((rows.map (·.1)).getLast?.getD 0)*d:=by
 rw[qgK (c:=λb=>zC3 lu b-d) (λr hr=>by
  have:=h2 r hr;rw[<- qiP];omega),h1,qe9,qeJ q0I (λc hc=>q1E.mpr hc),q9h,Int.sub_zero]
theorem qcI{ts:af}{kn:ae}{f:cG}(h:Jv)(inn:∀e∈kn,e.1∈ts/\e.2∈ts)(es:gU):(∀e∈es,e.1∈ts/\e.2.1∈ts)->Tells ts Pk (Xq f es).1:=by
 refine q1o (P:=λes=>(∀e∈es,e.1∈ts/\e.2.1∈ts)->Tells ts Pk (Xq f es).1) (λ_=>by show Tells ts (kn++[]) f;rw[zx];exact h) aaD es;have h1:=ih λx hx=>he x (zV _ hx);obtain⟨p1,p2⟩:=he e (by simp);rw[q2x];unfold zAx
 by_cases z:(Xq f l).1 e.1=(Xq f l).1 e.2.1
 ·rw[iP];exact h1
 ·rw[iw]
  show Tells ts (kn++((Xq f l).2++[e]).map WL) _;rw[zW,<- zM];exact h1.join (λx hx=>by
   rcases zK.mp hx with m|m
   ·exact inn x m
   ·obtain⟨y,hy,rfl⟩:=zi.mp m
    exact he y (zV _ ((q3r f l).subset hy))) p1 p2
theorem q6z:∀(r:af)(k:Int),∀p∈k::r,Rch (Y7 (k::r)) k p
 | [],k,p,hp=>by cases zR.mp hp;exact .refl
 | k1::r,k,p,hp=>by
  rcases zG.mp hp with rfl|hp
  ·exact .refl
  ·rw[q1z]
   exact(Rch.refl.step (.inl zF)).trans ((q6z r k1 p hp).mono λe he=>zH _ he)
noncomputable def egO(q:bo):Eg:=(q.1,q.2,q.2-q.1)
theorem qii(G:ae):(G.map egO).map WL=G:=by rw[yM];exact List.map_id _
theorem qge{ts:af}{f:cG}(hn:ts.Nodup)(hne:ts≠[])(h:∀x∈ts,∀y∈ts,f x=f y):many f ts=1:=by
 obtain⟨t,ht⟩:=List.exists_mem_of_ne_nil _ hne;obtain⟨a,a1,_,a3⟩:=q8S (λ_=>True) ht trivial;show (ts.filter (zDH f ts)).length=[a].length;refine q43 (hn.filter _) (by simp) λc=>?_;rw[yL,q2j,zR]
 constructor
 ·rintro⟨h1,h2⟩
  have:=h2 a a1 (h a a1 c h1);have:=a3 c h1 trivial;omega
 ·rintro rfl
  exact⟨a1,λc hc _=>a3 c hc trivial⟩
theorem qdH:∀{rows:AT}{a:Int},(rows.map (·.1)).Pairwise (· < ·)->(∀c∈rows.map (·.1),a<c)->zCq a rows
 | [],_,_,_=>trivial
 | r::rows,a,h,h2=>by
  rw[zZ]at h h2;exact⟨h2 _ zF,qdH (za.mp h).2 (za.mp h).1⟩
theorem qgs:∀(rows:AT)(a:Int),wgh a rows=wghK 1 a rows
 | [],_=>rfl
 | r::rs,a=>by show Q5*(rW-1)+wgh r.1 rs=_;rw[qgs];rfl
theorem qfN{l m:af}(h:l.Perm m):l.sum=m.sum:=by
 induction h with
 | nil=>rfl
 | cons x _ ih=>rw[z8,z8,ih]
 | swap x y l=>rw[z8,z8,z8,z8];omega
 | trans _ _ h1 h2=>rw[h1,h2]
theorem qdw{α:Type}(d:α):∀bs:List α,(zo bs.length).map Vk=bs:=λbs=>by
 apply Yc
 ·rw[zB,yC]
 ·intro i h1 h2
  rw[wN,YC,zX,zA h2];rfl
theorem q6K:∀{P:af},P.Pairwise (· < ·)->(Y7 P).Nodup
 | [],_=>xQ
 | [_],_=>xQ
 | a::b::r,h=>by
  show ((a,b)::Y7 (b::r)).Nodup;have hr:=za.mp h;refine yx.mpr ⟨λm=>?_,q6K hr.2⟩;have:=hr.1 a (q1G m).1;omega
structure FoA (h l:Int) (bs:List (Int×Int)) (F:List Eg):Prop where
 fo:qS [.lst ((Pz h l bs).map D.int),.lst ((Kn h l bs).map Y4),.lst (((Y7 (Pz h l bs)).map egO).map egD)]=some (.fr (F.map egD))
 fs:∀e∈F,∃g∈Y7 (Pz h l bs),e=egO g
 nd:F.Nodup
 len:F.length<=62
 con:∀x∈Pz h l bs,∀y∈Pz h l bs,Rch (Kn h l bs++F.map WL) x y
theorem qgI(h l:Int)(bs:ae):Pz h l bs≠[]:=λz=>by
 have:h∈Pz h l bs:=(qX h).mpr bC;rw[z]at this;cases this
theorem qgi{P:af}:∀p∈P,∀q∈P,Rch (Y7 P) p q:=by
 cases P with
 | nil=>intro p hp;cases hp
 | cons k r=>exact λp hp q hq=>(q6z r k p hp).symm.trans (q6z r k q hq)
structure Fo42 (h l:Int) (bs:List (Int×Int)) (F:List Eg) (rows:List (Int×List (List Int))):Prop where
 A:FoA h l bs F
 lv:zCR q3I q1k q1l qF [.lst ((Pz h l bs).map D.int),.lst ((Kn h l bs).map Y4),.lst (((Y7 (Pz h l bs)).map egO).map egD)] rows
 ml:q0t [.lst ((Pz h l bs).map D.int),.lst ((Kn h l bs).map Y4),.lst (((Y7 (Pz h l bs)).map egO).map egD)]=some (.fr (rows.map WU))
 rs:q0U [.int h,.int l,.lst (bs.map XJ)]=↥(.tup [.lst ((Y7 (Pz h l bs)).map (WS bs)),.lst (rows.map WU)])
 ir:q04 [.int h,.int l,.lst (bs.map XJ),.tup [.lst ((Y7 (Pz h l bs)).map (WS bs)),.lst (rows.map WU)]]=↥(.bl true)
 wt:q18 [.int h,.int l,.lst (bs.map XJ),.tup [.lst ((Y7 (Pz h l bs)).map (WS bs)),.lst (rows.map WU)]]=↥(.int (((Y7 (Pz h l bs)).map (gwt h l bs)).sum+2*(F.map XR).sum))
 ls:q44 [.int h,.int l,.lst (bs.map XJ)]=↥(.int (((Y7 (Pz h l bs)).map (gwt h l bs)).sum+2*(F.map XR).sum))
theorem qk7{h l:Int}{bs:ae}(hb:bM):∃F rows,Fo42 h l bs F rows:=by
 have hP:=q5G h l bs;have hl:=q5n (h:=h) (l:=l) hb;have hG:=q98 (h:=h) (l:=l) hb;have gl:=q0D aA;have fl:=yH (λq=>! fV) Ay;have kl:(Kn h l bs).length<=900:=by unfold Kn;rw[zD,zD,zT];omega
 have ok:Ok aA Ge:=⟨q9O hP,λe he=>qjM he,hl,∅⟩;have he:∀e∈(Y7 (Pz h l bs)).map egO,e.1∈Pz h l bs/\e.2.1∈Pz h l bs:=λe he=>by
  obtain⟨g,hg,rfl⟩:=zi.mp he;exact q1G hg
 have el:((Y7 aA).map egO).length<64:=by rw[zB];omega
 obtain⟨f,tl,hf⟩:=qdd ok he el;obtain⟨rows,r1,r2,r3,lv⟩:=qdv ok kl he el tl hf;have pm:=q0l (f:=XR) (l:=(Y7 aA).map egO);have heS:∀e∈XX XR ((Y7 (Pz h l bs)).map egO),e.1∈Pz h l bs/\e.2.1∈Pz h l bs:=λe h=>he e aaR;have kt:=q6O ok.nd tl ok.inn _ heS;have k2:=qcI tl ok.inn _ heS;have one:∀x∈Pz h l bs,∀y∈Pz h l bs,(Xq f Og).1 x=(Xq f Og).1 y:=λx hx y hy=>by
  refine(kt.1 x hx y hy).mpr ((qgi x hx y hy).mono λe he=>?_);refine zS _ ((pm.map WL).mem_iff.mpr ?_);rw[qii];exact he
 have sub:=q3r f Og;have lF:=sub.length_le;have lS:(XX XR mV).length=(Y7 aA).length:=by rw[q4V,zB]
 have n1:=kt.2;rw[qge ok.nd (qgI h l bs) one]at n1;have con:=λx hx y hy=>(k2 x hx y hy).mp (one x hx y hy);generalize (Xq f Og).2=F at sub lF con n1 hf r2 r3;have fs:∀e∈F,∃g∈Y7 (Pz h l bs),e=egO g:=λe he=>by
  obtain⟨g,hg,e1⟩:=zi.mp (pm.mem_iff.mp (sub.subset he));exact⟨g,hg,e1.symm⟩
 have ws:=qd2 (d:=0) r2 (λr hr=>(r3 r hr).1) n1;rw[wf,Int.sub_zero,show ((1:Nat):Int)+0=1 from rfl,<- qgs]at ws;have ris:zCq 0 rows:=qdH (by rw[r2];exact q0I) λc hc=>by
  rw[r2,q1E]at hc;obtain⟨e,he,rfl⟩:=zi.mp hc;obtain⟨g,hg,rfl⟩:=fs e he;have:=(hG g hg).lt;show 0<g.2-g.1;omega
 have L:∀r∈rows,Lev aA Ge r:=λr hr=>by
  obtain⟨hs,g2,g3⟩:=(r3 r hr).2.2;have ok':=q7g ok kl (es:=((Y7 aA).map egO).filter Lg) OE (by have:=yH Lg mV;omega);refine qiE (t:=r.1) (gs:=r.2) ok' g2 g3 λe he=>?_;rcases zK.mp he with m|m
  ·exact zV _ m
  ·obtain⟨m1,m2⟩:=yL.mp m
   refine zS _ (zi.mpr ⟨egO e,yL.mpr ⟨zi.mpr ⟨e,m1,rfl⟩,m2⟩,rfl⟩)
 have rl:rows.length<=1000:=by
  have e1:(rows.map (·.1)).length=rows.length:=zB ..;have:=q0Y lu;rw[<- r2,e1,zB]at this;omega
 have wt:=qeI hb rl ris L;have fo:=hf;have hK:=q4c (h:=h) (l:=l) hb;have hS:=q3x (h:=h) (l:=l) hb;have hE:=q4E (h:=h) (l:=l) hb;rw[show (Y7 aA).map edD=((Y7 aA).map egO).map egD by rw[yM];rfl]at hE;have hC:=q32 (h:=h) (l:=l) hb;have rs:q0U c9=↥eP:=by
  unfold q0U q6p;have r1':q0t [MQ,.lst ((bs++rZ++(Y7 Bc).filter λq=>! fV).map XJ),eY]=some (.fr iZ):=r1;simp_arith[hS,hK,hE,r1',hC]
 rw[ws]at wt;refine⟨F,rows,⟨fo,fs,?_,∅,con⟩,lv,r1,rs,q55 hb rl ris L,wt,?_⟩
 ·refine List.Nodup.sublist sub (pm.nodup_iff.mpr ?_)
  unfold List.Nodup;rw[YQ];exact(q6K hP).imp λ{a b} z e=>z (by
   have e1:a.1=b.1:=uB (λx=>x.1) e;have e2:a.2=b.2:=uB (λx=>x.2.1) e;exact Prod.ext e1 e2)
 ·unfold q44 q7a
  simp_arith[rs,wt]
noncomputable def emA(h l:Int)(bs:ae)(F:gU):List bo:=Wy gS Ay++twoA Oq
noncomputable def arA(h l:Int)(bs:ae)(F:gU):List bo:=bs++emA h l bs F
theorem qjV{h l:Int}{bs:ae}{F:gU}(A:rO){a:bo}(m:a∈emA h l bs F):∃g∈Y7 (Pz h l bs),a=Qm\/a=Ql:=by
 rcases zK.mp m with m|m
 ·exact qjg m
 ·obtain⟨e0,he0,m⟩:=xj.mp m
  obtain⟨e,he2,rfl⟩:=zi.mp he0;obtain⟨g,hg,rfl⟩:=A.fs e he2;rcases zG.mp m with rfl|m
  ·exact⟨g,hg,bC⟩
  ·cases zR.mp m
   exact⟨g,hg,MT⟩
theorem qjJ{h l:Int}{bs:ae}{F:gU}(hb:bM)(x:Int):flw x gQ=0:=by
 have hP:=q5G h l bs;have hG:=q98 (h:=h) (l:=l) hb;unfold arA emA;rw[q2V,q2V,q2V,q9l,q9t,q3q];have inP:∀b∈bs,b.1∈Pz h l bs/\b.2∈Pz h l bs:=λb hb=>lC;have ih:h∈Pz h l bs:=(qX h).mpr bC;have il:l∈Pz h l bs:=(qX l).mpr QC;have pk:(∃g∈Y7 (Pz h l bs),g.1<x/\x<=g.2/\∀c:Int×Int->Int,((Y7 aA).map λg=>c g*eQ).sum=c g)\/(∀p∈Pz h l bs,∀q∈Pz h l bs,chi x p=chi x q):=by
  have hne:=qgI h l bs;revert hP hne;generalize Pz h l bs=P;intro hP hne;cases P with
  | nil=>exact vP rfl hne
  | cons k r=>exact q99 x r k hP
 rcases pk with⟨g,hg,g1,g2,g3⟩|h3
 ·rw[g3 gS]
  obtain⟨t1,t2⟩:=qgS (hG g hg) g1 g2;have hG1:Gap h l rZ g:=⟨(hG g hg).lt,(hG g hg).h,(hG g hg).l,λb hb=>by cases zR.mp hb;exact⟨(hG g hg).h,(hG g hg).l⟩⟩;obtain⟨u1,u2⟩:=qgS hG1 g1 g2;simp only[zZ,yr,z8,YR,YO]at u1 u2;have v:=qcM x h l;have fb:flw x bs=rts bs g-lfs bs g:=by
   rw[<- t1,<- t2];unfold flw;rw[yR λb _=>(qcM x b.1 b.2).symm];clear t1 t2 hb hP hG inP ih il hg g3 hG1 u1 u2
   induction bs with
   | nil=>rfl
   | cons b bs ih=>simp only[zZ,z8,ih];omega
  rw[fb];have e0:flw x []=0:=rfl;rw[e0];unfold XN;simp only;omega
 ·have e0:((Y7 aA).map λg=>XN h l bs g*eQ).sum=0:=by
   have:∀g∈Y7 (Pz h l bs),XN h l bs g*eQ=0:=λg hg=>by
    rw[h3 _ (q1G hg).2 _ (q1G hg).1,Zb,wf]
   rw[yR this];clear this
   induction Y7 (Pz h l bs)with
   | nil=>rfl
   | cons g gs ih=>rw[zZ,z8,ih];rfl
  have fb:flw x bs=0:=by
   unfold flw;have:∀b∈bs,chi x b.2-chi x b.1=0:=λb hb=>by rw[h3 _ (inP b hb).2 _ (inP b hb).1,Zb]
   rw[yR this];clear this;generalize bs=bs'
   induction bs' with
   | nil=>rfl
   | cons g gs ih=>rw[zZ,z8,ih];rfl
  have:=h3 _ ih _ il;have en:flw x []=0:=rfl;rw[e0,fb,en];simp only;omega
theorem qjT{h l:Int}{bs:ae}{F:gU}(A:rO):∀a∈arA h l bs F++[(l,h)],a.1∈Pz h l bs:=λa ha=>by
 rcases zK.mp ha with m|m
 ·rcases zK.mp m with m|m
  ·exact(qX _).mpr (.inr (.inr ⟨a,m,bC⟩))
  ·obtain⟨g,hg,rfl|rfl⟩:=qjV A m
   ·exact(q1G hg).1
   ·exact(q1G hg).2
 ·cases zR.mp m
  exact(qX l).mpr QC
theorem qjn{h l:Int}{bs:ae}{F:gU}(A:rO):∀x∈Pz h l bs,∀y∈Pz h l bs,Rch gQ x y:=λx hx y hy=>by
 refine Rch.inv (λz=>Rch gQ x z) .refl Vo (A.con x hx y hy);have key:∀{u v:Int},(u,v)∈Kn h l bs++F.map WL->Rch gQ u v:=λ{u v} m=>by
  have s1:∀{u v:Int},(u,v)∈arA h l bs F->Rch gQ u v:=λm=>Rch.refl.step (.inl (zV _ m));rcases zK.mp m with m|m
  ·unfold Kn at m
   rcases zK.mp m with m|m
   ·rcases zK.mp m with m|m
    ·exact s1 (zV _ m)
    ·cases zR.mp m
     exact Rch.refl.step (.inr aaI)
   ·obtain⟨m1,m2⟩:=yL.mp m
    have hc:XN h l bs (u,v)≠0:=by simpa using m2
    rcases qfs (c:=XN h l bs) m1 hc with z|z
    ·exact s1 (zS _ SM)
    ·exact(s1 (zS _ SM)).symm
  ·exact s1 (zS _ (zS _ (xj.mpr ⟨_,m,zF⟩)))
 rcases hbc with m|m
 ·exact hb.trans (key m)
 ·exact hb.trans (key m).symm
theorem qi4{h l:Int}{bs:ae}{F:gU}(hb:bM):(sts gQ).Perm (gls gQ):=by
 rw[List.perm_iff_count];intro v;rw[<- (q6E _ v).1,<- (q6E _ v).2];exact qaA (λx=>qjJ hb x) v
theorem q6n{h l:Int}{bs:ae}(q:bo):-oC-1<=XN h l bs q/\XN h l bs q<=bs.length+1:=by
 unfold XN rts lfs;have a1:=yH (λp:Int×Int=>over p.1 p.2 q) bs;have a2:=yH (λp:Int×Int=>over p.2 p.1 q) bs;have b1:=yH (λp:Int×Int=>over p.1 p.2 q) rZ;have b2:=yH (λp:Int×Int=>over p.2 p.1 q) rZ;simp only[zT]at b1 b2;omega
theorem q7A{c:j9}{n:Nat}:∀G:List bo,(∀g∈G,-cR<=c g/\c g<=n)->(Wy c G).length<=G.length*n
 | [],_=>zn _
 | g::G,h=>by
  have ih:=q7A G λx hx=>h x lN;have hg:=h g zF;show (repA (c g) g++Wy c G).length<=_;rw[zD,zJ,Nat.add_mul,Nat.one_mul];unfold repA;rw[zD,yN,yN];omega
theorem q7G:∀F:List bo,(twoA F).length=2*F.length
 | []=>rfl
 | e::F=>by
  show (Dp++twoA F).length=_;rw[zD,q7G F,zJ];simp only[zJ,wF];omega
theorem qdc{h l:Int}{bs:ae}{F:gU}(hb:bM)(A:rO):(arA h l bs F).length<=2500:=by
 have hl:=q5n (h:=h) (l:=l) hb;have gl:=q0D aA;have e1:=q7A (c:=XN h l bs) (n:=31) Ay λg _=>by have:=q6n (h:=h) (l:=l) (bs:=bs) g;omega
 have:=A.len;unfold arA emA;rw[zD,zD,q7G,zB];omega
structure Rg (as:List (Int×Int)):Prop where
 pm:(sts as).Perm (gls as)
 hg:∀p∈as,∀q∈as,Rch as p.1 q.1
theorem qhC(as:ae):shp aU=true:=q7k 2 (by decide) λd hd=>by
 obtain⟨p,_,rfl⟩:=zi.mp hd;exact⟨rfl,by show 1<=2;decide⟩
theorem q8A{as:ae}{s:Int}{row:af}(h:W9 s as=some row):q1K [pi,aU]=some (.fr Mp):=by
 show ((pairsOf FN).bind λas=>(W9 s as).map λrow=>O.fr Mp)=_;rw[q3W,yW,h];rfl
theorem qiC{as:ae}{s:Int}(hl:Fk)(hg:Rg as)(hs:∃p∈as,p.1=s):∃row:List Nat,q30 [pi,aU]=↥(.lst Fb)/\row.Perm eF/\Wlk as s row s:=by
 have hm:=qhI (as:=as) hl;rw[vT hg.pm]at hm;obtain⟨row,U,hr,R⟩:=qfV (s:=s) hl hg.pm;have hrf:=q8A hr;obtain⟨p,hp,rfl⟩:=hs;have ha:row.length=as.length:=R.full λq hq=>hg.hg p hp q hq;have e1:((((cst row).length:Nat):Int)==My)=true:=by
  have:(cst row).length=row.length:=by unfold cst;rw[zB]
  simp only[beq_iff_eq];omega
 have hU:U=[]:=by
  have:=R.all.length_eq;rw[zD,yC]at this;exact ym ∅
 refine⟨row,?_,by have:=R.all;rw[hU,yT]at this;exact this,R.walk⟩;unfold q30 q6o;simp_arith[hm,hrf,e1]
theorem Wlk.split{as:ae}:∀{r q:cP}{a c:Int},Wlk as a (r++q) c->∃b,Wlk as a r b/\Wlk as b q c
 | [],_,a,_,h=>⟨a,.nil _,h⟩
 | n::r,q,a,c,h=>by
  cases h with
  | cons e t=>
   obtain⟨b,h1,h2⟩:=t.split;exact⟨b,.cons e h1,h2⟩
theorem q9r{s:Int}:∀{P:af},s∈P->∃i,zCT s P=some i/\P[i]?=some s
 | a::r,h=>by
  unfold zCT
  by_cases z:a=s
  ·exact⟨0,vH z,by rw[z];rfl⟩
  ·obtain⟨i,h1,h2⟩:=q9r ((zG.mp h).resolve_left λe=>z e.symm)
   exact⟨i+1,by rw[iw,h1];rfl,h2⟩
theorem qjk{f g:FD}{ω:WSt}:fIdx f g ω=(f ω).bind λd=>(g ω).bind λc=>idxD d c:=rfl
theorem qgc{α:Type}{xs:bH}{k:Int}(h:0<=k):cutD xs none M4=xs.take k.toNat:=by
 unfold cutD;have e:HT.sIx xs.length xs.length M4=min k.toNat xs.length:=by
  have:=HT.q7v xs.length xs.length k.toNat;rw[show Va=k by omega]at this;exact this
 rw[HT.q5T,e,Nat.sub_zero,ZF,List.take_eq_take_iff];omega
theorem qf3{α:Type}{xs:bH}{k:Int}(h:0<=k):cutD xs M4 none=xs.drop k.toNat:=by
 unfold cutD;have e:HT.sIx xs.length 0 M4=min k.toNat xs.length:=by
  have:=HT.q7v xs.length 0 k.toNat;rw[show Va=k by omega]at this;exact this
 rw[HT.q5T,e,yy (by rw[yO];omega)];rcases YK k.toNat xs.length with z|z
 ·rw[wx z]
 ·rw[Nat.min_eq_right z,ZR,List.drop_of_length_le z]
theorem q7q{α:Type}(d:α):∀n:Nat,(zk n [d]).flatten=zk n d
 | 0=>rfl
 | n+1=>by rw[yU,yB,q7q d n,yU];rfl
theorem qgj(c:j9)(G:ae)(q:bo):Wy c (G++[q])=Wy c G++repA (c q) q:=by
 unfold Wy;rw[wS,Zc]
theorem qit{h l:Int}{bs:ae}(hb:bM):q0z c9=some (.fr Vc):=by
 unfold q0z q28;have hg:=q23 (h:=h) (l:=l) hb;have hk:=q6v (h:=h) (l:=l) hb;have hL:=q3z (h:=h) (l:=l) hb;rw[show XU bB=Pz h l bs from rfl]at hg hk;generalize Y7 aA=L at hg hk hL ⊢;simp_arith[hg,hk,q61];obtain⟨ω',e,x4,x5,x6,rfl⟩:=q0a (g:=gT 2 nc) (b:=q1R) (λq=>D.tup [Qp,B3]) L
  (λpre ω=>∃x4 x5 x6:Option W,ω=[↥ib,↥jJ,↥aE,some (.ow ((Wy gS pre).map XJ)),x4,x5,x6])
  (λpre q post ω hd Z_=>by
   obtain⟨x4,x5,x6,hω⟩:=Z_;subst hω;refine dv;have la:=q6n (h:=h) (l:=l) (bs:=bs) q;have el:=q7A (c:=XN h l bs) (n:=31) pre λg _=>by have:=q6n (h:=h) (l:=l) (bs:=bs) g;omega
   have pl:pre.length<=L.length:=by rw[hd,zD];omega
   have ba:zCe [B3]=↥adE:=rfl;unfold q1R;rw[show XJ q=D.tup [oJ,DG]from rfl];simp only[qgj];generalize XN h l bs q=c at *;have ab:0<=zAP c/\zAP c<=31:=by unfold zAP;split <;> omega
   by_cases hc:0<c
   ·have hr:=λd:D=>qcN (ds:=[d]) ab.1 ∅ (show [d].length<=1000 by simp)
    have e1:(zAP c).toNat=c.toNat:=by unfold zAP;rw[iW]
    have hl2:((Wy gS pre).map XJ).length+(zk c.toNat adu).length<=1000000:=by
     rw[zB,yN];omega
    have ea:(Wy gS pre).map XJ++zk c.toNat adu=(Wy gS pre++repA c q).map XJ:=by
     unfold repA;rw[show (-c).toNat=0 by omega,wR,zx,zW,xp];rfl
    simp_arith[hc,decide_true,ba,hr,q7q,e1,q5e hl2,ea];exact AX
   ·have hr:=λd:D=>qcN (ds:=[d]) ab.1 ∅ (show [d].length<=1000 by simp)
    have e1:(zAP c).toNat=(-c).toNat:=by unfold zAP;split <;> omega
    have hl2:((Wy gS pre).map XJ).length+(zk (-c).toNat adv).length<=1000000:=by
     rw[zB,yN];omega
    have ea:(Wy gS pre).map XJ++zk (-c).toNat adv=(Wy gS pre++repA c q).map XJ:=by
     unfold repA;rw[show c.toNat=0 by omega,wR,yT,zW,xp];rfl
    simp_arith[hc,decide_false,ba,hr,q7q,e1,q5e hl2,ea];exact AX)
  (ω:=[↥ib,↥jJ,↥aE,oO,none,none,none]) Db
 simp_arith[e]
theorem qg6(F:ae)(e:bo):twoA (F++[e])=twoA F++Dp:=by
 unfold twoA;rw[wS,Zc]
theorem qji{h l:Int}{bs:ae}{F:gU}(hb:bM)(A:rO):q0N c9=some (.fr aay):=by
 unfold q0N q2C;have hK:=q4c (h:=h) (l:=l) hb;have hS:=q3x (h:=h) (l:=l) hb;have hE:=q4E (h:=h) (l:=l) hb;rw[show (Y7 aA).map edD=((Y7 aA).map egO).map egD by rw[yM];rfl]at hE;have fo:=A.fo;have fl:=A.len;have fo':qS [MQ,.lst ((bs++rZ++(Y7 Bc).filter λq=>! fV).map XJ),eY]=some (.fr (F.map egD)):=fo;simp_arith[hS,hK,hE,fo'];obtain⟨ω',e,x5,rfl⟩:=q0a (g:=gN 5) (b:=q2i) egD F
  (λpre ω=>∃x5:Option W,ω=[↥ib,↥jJ,↥aE,some (.ow ((twoA DT).map XJ)),↥MQ,x5])
  (λpre q post ω hd Z_=>by
   obtain⟨x5,hω⟩:=Z_;subst hω;refine dv;have pl:pre.length<=F.length:=by rw[hd,zD];omega
   have tl:=q7G DT;rw[zB]at tl;have l1:((twoA DT).map XJ).length<1000000:=by rw[zB];omega
   have l2:((twoA DT).map XJ++[D.tup [oJ,PY]]).length<1000000:=by rw[zD,zB,zT];omega
   have ea:(twoA DT).map XJ++[D.tup [oJ,PY]]++[D.tup [PY,oJ]]=(twoA ((pre++[q]).map WL)).map XJ:=by
    rw[zW,zZ,yr,qg6,zW,zM];rfl
   unfold q2i;rw[show egD q=D.tup [oJ,PY,.int q.2.2]from rfl];simp_arith[zCD l1,zCD l2,ea];exact bD)
  (ω:=[↥ib,↥jJ,↥aE,oO,↥MQ,none]) GH
 simp_arith[e]
theorem qi3{as x:ae}{n:Nat}(h:n<as.length):Xo (as++x) n=Xo as n/\WI (as++x) n=WI as n:=by
 unfold Xo WI;rw[zX,zX,ze h];exact dg
theorem Wlk.low{as x:ae}:∀{r:cP}{a b:Int},Wlk (as++x) a r b->(∀n∈r,n<as.length)->Wlk as a r b
 | [],_,_,h,_=>by cases h;exact .nil _
 | n::r,a,b,h,hl=>by
  cases h with
  | cons e t=>
   have sa:=qi3 (x:=x) (hl n zF);rw[sa.1]at e;rw[sa.2]at t;exact .cons e (t.low λk hk=>hl k (zH _ hk))
theorem qhS{row:cP}{j n:Nat}(h:(cst row)[j]?=some cR):row[j]?=some n:=by
 unfold cst at h;rw[zP]at h;cases e:row[j]? with
 | none=>rw[e]at h;cases h
 | some m=>
  rw[e]at h;have:jp=n:=zr h;rw[show m=n by omega]
theorem qj8{as:ae}{h l:Int}(hl:as.length<=2900)(hg:Rg Ik):∃q:List Nat,q0k [ib,jJ,aU]=some OP/\q.Perm eF/\Wlk as h q l:=by
 have hs:∃p∈as++[(l,h)],p.1=h:=by
  have m:h∈gls Ik:=zi.mpr ⟨(l,h),by simp,rfl⟩;obtain⟨p,hp,e⟩:=zi.mp (hg.pm.mem_iff.mpr m);exact⟨p,hp,e⟩
 have hn:(as++[(l,h)]).length=as.length+1:=by rw[zD,zT]
 obtain⟨row,hr,hp,hw⟩:=qiC (s:=h) ∅ hg hs;rw[hn]at hp;have mn:My∈cst row:=zi.mpr ⟨as.length,hp.mem_iff.mpr (xC.mpr Vs),rfl⟩;obtain⟨j,j1,j2⟩:=q9r mn;have j3:=qhS j2;obtain⟨jl,j4⟩:=zt.mp j3;have er:row=row.take j++as.length::row.drop (j+1):=by
  rw[<- j4,List.getElem_cons_drop,yF]
 have pm:(row.drop (j+1)++row.take j).Perm eF:=by
  have p1:(as.length::mJ).Perm row:=by
   have:(row.take j++as.length::row.drop (j+1)).Perm (as.length::mJ):=ZP.trans (List.Perm.cons _ yq);rw[<- er]at this;exact this.symm
  have p2:(zo (as.length+1)).Perm (as.length::zo as.length):=by
   rw[Yj];exact yq
  exact((p1.trans hp).trans p2).cons_inv
 have lt:∀n∈row.drop (j+1)++row.take j,n<as.length:=λn hn=>xC.mp (pm.mem_iff.mp hn);refine⟨mJ,?_,pm,?_⟩
 ·unfold q0k q2K
  have ad:WC aU (.lst [.tup [jJ,ib]])=some (.fr ((as++[(l,h)]).map Y4)):=by
   rw[q1x (by rw[zB,zT];omega),zW];rfl
  have ix:idxD (.lst Fb) (.int My)=↥B4:=by
   show (intsOf Fb).bind _=_;rw[q0J,yW,j1];rfl
  have cl:(cst row).length=as.length+1:=by unfold cst;rw[zB,hp.length_eq,yC]
  have c1:=qf3 (xs:=(cst row).map D.int) (k:=Cw+1) ∅;have c2:=qgc (xs:=(cst row).map D.int) (k:=Cw) ∅;have a2:WC (.lst (((cst row).map D.int).drop (Cw+1).toNat)) (.lst (((cst row).map D.int).take (j:Int).toNat))=some (.fr ((cst mJ).map D.int)):=by
   rw[q1x (by rw[yO,zf,zB];omega),show (Cw+1).toNat=j+1 by omega,show (j:Int).toNat=j by omega];unfold cst;rw[zW,zW,ZN,ZN,Zx,Zx]
  simp_arith[ad,hr,qjk,ix,qgQ,c1,c2,a2]
 ·rw[er]at hw
  obtain⟨b,w1,w2⟩:=hw.split;cases w2 with
  | cons e t=>
   have s1:Xo Ik as.length=l/\WI Ik as.length=h:=by
    unfold Xo WI;rw[zX,zb bX,wY];exact dg
   rw[s1.1]at e;rw[s1.2]at t;subst e;exact(t.app w1).low lt
noncomputable def mvN(B:Nat)(as:ae)(n:Nat):D:=if n<B then .tup Lh else .tup NZ
theorem qhZ{h l:Int}{bs:ae}{F:gU}(hb:bM)(A:rO):∃q:List Nat,q54 c9=some (.fr (q.map Bq))/\q.Perm Nt/\Wlk eJ h q l:=by
 have al:=qdc hb A;have st:=qjT A;obtain⟨q,q1,q2,q3⟩:=qj8 (as:=arA h l bs F) (h:=h) (l:=l) ∅ ⟨qi4 hb,λp hp r hr=>qjn A _ (st p hp) _ (st r hr)⟩;refine⟨q,?_,q2,q3⟩;unfold q54 q9c;have h1:=qit (h:=h) (l:=l) hb;have h2:=qji hb A;have e1:WC (.lst Vc) (.lst aay)=some (.fr QF):=by
  rw[q1x,<- zW];rfl;unfold arA emA at al;rw[zD,zD]at al;rw[zB,zB];omega
 have e2:WC aE (.lst QF)=some (.fr oW):=by
  rw[q1x,<- zW];rfl;unfold arA at al;rw[zD]at al;rw[zB,zB];omega
 have q1':q0k [ib,jJ,.lst oW]=some OP:=q1;have hq:((cst q).map D.int).length<=1000000:=by
  unfold cst;rw[zB,zB,q2.length_eq,yC];omega
 have cm:=qD (i:=0) (f:=q7p) (λn:Nat=>D.int cR) Bq q (ω:=[none,↥aE,↥(.lst oW)]) (λn hn=>by
  have hlt:n<(arA h l bs F).length:=xC.mp (q2.mem_iff.mp hn);have hi:atI oW cR=some (.tup [.int Qn,.int Qs]):=by
   rw[q1N ∅ (by rw[zB];omega)];have:(((arA h l bs F).map XJ)[(cR).toNat]'(by rw[zB];omega))=XJ (arA h l bs F)[n]:=by
    rw[wN];simp
   rw[this];unfold XJ Xo WI;rw[zX,oZ];rfl
  unfold q7p q1O q3l mvN
  by_cases z:n<bs.length
  ·have z':decide (cR<oC)=true:=by simpa using z
   simp_arith[hi,z',z]
  ·have z':decide (cR<oC)=false:=by simpa using z
   simp_arith[hi,z',z])
 have cq:(cst q).map D.int=q.map λn:Nat=>D.int cR:=by unfold cst;rw[yM];rfl
 rw[cq]at q1' hq;simp_arith[h1,h2,e1,e2,q1',WZ hq,inW,Wa,cm]
theorem qjN{B:Nat}{as:ae}{n:Nat}(h:¬n<B):mvN B as n=.tup NZ:=vJ h
theorem qj5{B:Nat}{as:ae}{n:Nat}(h:n<B):mvN B as n=.tup Lh:=vH h
theorem at3m{a b c:D}:atI [a,b,c] (-1)=some c/\atI [a,b,c] (-2)=some b:=dg
theorem at4m{a b c d:D}:atI R5 (-1)=some d/\atI R5 (-2)=some c:=dg
theorem qhY{B:Nat}{as:ae}(q:cP):X2 iF Xj q4Y (q.map (mvN B as)) KD=some (q.map λn=>D.int (WJ jg pb)):=qD (mvN B as) (λn=>D.int (WJ jg pb)) q λn _=>by
 unfold q4Y
 by_cases z:n<B
 ·rw[qj5 z]
  simp_arith[at4m,zCe];rfl
 ·rw[qjN z]
  simp_arith[at3m,zCe];rfl
theorem qfJ{h l:Int}{bs:ae}{F:gU}(hb:bM)(A:rO){q:cP}(q2:q.Perm Nt):(q.map λn=>WJ Qn Qs).sum=((Y7 aA).map J3).sum+2*(F.map XR).sum:=by
 have e0:=qfN (q2.map λn=>WJ Qn Qs);have e1:((zo (arA h l bs F).length).map λn=>WJ Qn Qs)=(arA h l bs F).map λa=>WJ a.1 a.2:=by
  conv=>rhs;rw[<- qdw (0,0) eJ]
  rw[yM];rfl
 have hG:=q98 (h:=h) (l:=l) hb;have wb:=q87 (h:=h) (l:=l) (q5G h l bs) bs (λb hb=>lC) hG;have we:=q9p gS Ay λg hg=>(hG g hg).lt;have wt2:=q9v Oq λg hg=>by
  obtain⟨e,he2,rfl⟩:=zi.mp hg;obtain⟨g2,hg2,rfl⟩:=A.fs e he2;exact(hG g2 hg2).lt
 have e6:((F.map WL).map λg=>g.2-g.1)=F.map XR:=by
  rw[yM];exact yR λe he=>by obtain⟨g,_,rfl⟩:=A.fs e he;rfl
 rw[e0,e1];unfold arA emA;rw[zW,xt,zW,xt,we,wt2,wb,e6,<- Int.add_assoc,<- q6j];rw[show ((Y7 aA).map J3)=(Y7 aA).map λx=>(x.2-x.1)*(rts bs x+lfs bs x)+(x.2-x.1)*zAP (XN h l bs x)from yR λg _=>by unfold gwt;rw[Ye]]
theorem qcw{h l:Int}{bs:ae}(hb:bM):q0j c9=some (.fr mM):=by
 unfold q0j q2H;have hl:((Y7 aA).map XJ).length<=1000000:=by rw[zB];have:=q3z (h:=h) (l:=l) hb;omega
 have cm:=qD (i:=0) (f:=q29) XJ Oh Ay (ω:=[none,↥aE]) (λq hq=>by
  have c:=q2T (bs:=bs) (q:=q) ∅;have ha:WC Qp mL=↥Ee:=rfl;unfold q29;simp_arith[c,ha])
 have g:=q23 (h:=h) (l:=l) hb;rw[show XU bB=Pz h l bs from rfl]at g;simp_arith[g,KF,inW,Wa,cm]
theorem qc9(rs:AT):zAW 0 rs=rs.map WU:=by
 unfold zAW;refine yt λj=>?_;rw[ww,zP];cases rs[j]? with
 | none=>rfl
 | some r=>show some (D.tup [ab9,.lst (if j<0 then []else r.2.map gLD)])=_;rw[vJ (xr j)];rfl
theorem qhV{f:FD}{T:Int×Int->D}:∀(L:ae){ω:WSt},(∃a b,ω=Bb)->(∀q∈L,f [↥oJ,↥DG]=some (T q))->X2 Ho Xj f (L.map XJ) ω=some (L.map T):=λL ω h0 hf=>by
 have:=q1W (g:=gT 2 cv) (c:=Xj) (f:=f) (λw=>∃a b,w=Bb) Cn XJ T L (ω:=ω) h0 (λq hq w Z_=>by
  obtain⟨a,b,hw⟩:=Z_;subst hw;exact⟨_,rfl,lw,rfl,λ_=>hf q hq⟩)
 rw[Mi]at this;exact this
theorem qg8(ns:af)(hl:ns.length<=63):q5x [Cg]=↥cU:=by
 obtain⟨h,l,bs,he,hb14⟩:=errand (ns:=ns) (most:=14) (by decide) (by decide);have hb:bs.length<=30:=∅
 obtain⟨F,rows,X⟩:=qk7 (h:=h) (l:=l) hb;obtain⟨q,q1,q2,q3⟩:=qhZ hb X.A;have ln:=qfJ hb X.A q2;have al:=qdc hb X.A;have hql:(q.map Bq).length<=1000000:=by rw[zB,q2.length_eq,yC];omega
 have len:q3b [.lst (q.map Bq)]=↥jr:=by
  unfold q3b q6q;simp_arith -implicitDefEqProofs [WZ hql,inW,Wa,qhY,qdq,ln]
 have hS:=q3x (h:=h) (l:=l) hb;have hg:=q23 (h:=h) (l:=l) hb;have hK:=q4c (h:=h) (l:=l) hb;have hE:=q4E (h:=h) (l:=l) hb;have hC:=q32 (h:=h) (l:=l) hb;have lc:=qcw (h:=h) (l:=l) hb;have eE:(Y7 aA).map edD=((Y7 aA).map egO).map egD:=by rw[yM];rfl
 rw[eE]at hE;have bl:zB8 [aE]=some (.fr Ax):=rfl;have hgl:=q3z (h:=h) (l:=l) hb;have hl1:((Y7 aA).map XJ).length<=1000000:=by rw[zB];omega
 have cE:=qhV (f:=q8M) (T:=edD) Ay (ω:=Hs) lw (λg _=>by unfold q8M edD;simp_arith -implicitDefEqProofs [qV]);rw[eE]at cE;have ml:q0t [MQ,.lst ((bs++rZ++(Y7 Bc).filter λq=>! fV).map XJ),eY]=some (.fr iZ):=X.ml;have nb:oEq true aE aE=↥dM:=q4t (show shp aE=true from qhC bs);have okT:okN 5 eP:=qem λd hd=>by
  simp only[zG,zj,or_false]at hd;rcases hd with rfl|rfl
  ·exact(q6S (n:=1) λd hd=>by obtain⟨g,_,rfl⟩:=zi.mp hd;exact qjc bs g).up (by decide)
  ·exact q6S λd hd=>by obtain⟨r,_,rfl⟩:=zi.mp hd;exact qcW r
 have nT:=q4t (q8K okT (by decide));have eT:=q4j (q8K okT (by decide));have nn:∀x:Int,oEq true Bh Bh=↥dM:=λx=>q4t rfl;have wh:∀x:Int,q1T [Bh]=↥cU:=λ_=>rfl;have z0:=qc9 rows;have rs:=X.rs;have ir:=X.ir;have wt:=X.wt;have ls:=X.ls;unfold q5x mK42;refine vH ⟨↥Cg,ib,jJ,aE,aE,ib,jJ,aE,MS,.lst ((Kn h l bs).map Y4),eY,.lst mM,eY,MP,jr,rows,w11 ib jJ aE aE none (some eY) (some MP) (some jr) none,?_,KN,⟨?_,?_,?_,?_⟩,X.lv,?_,?_,?_,?_,?_,?_,?_,?_,acm,?_⟩
 ·unfold qdU qeK
  simp_arith -implicitDefEqProofs [he,bl]
 ·unfold q8B
  simp_arith -implicitDefEqProofs [hS];rfl
 ·unfold q8C
  simp_arith -implicitDefEqProofs [hK];rfl
 ·unfold q8H
  simp_arith -implicitDefEqProofs [hE]
 ·unfold q8E
  simp_arith -implicitDefEqProofs [hC]
 ·unfold qeO zCB
  rw[z0];simp_arith -implicitDefEqProofs [nb,ir]
 ·unfold qd1
  rw[show XU bB=Pz h l bs from rfl]at hg;simp_arith -implicitDefEqProofs [hg,WZ hl1,inW,Wa,cE]
 ·unfold qdl
  simp_arith -implicitDefEqProofs [hS,hK,ml]
 ·unfold qev zCB
  rw[z0];simp_arith -implicitDefEqProofs [lc,nT]
 ·unfold qeH
  simp_arith -implicitDefEqProofs [ls]
 ·unfold qcR
  simp_arith -implicitDefEqProofs [wh,nb]
 ·unfold qd4 zCB
  rw[z0];simp_arith -implicitDefEqProofs [wt,nn,q1,len]
 ·unfold qey
  simp_arith -implicitDefEqProofs [qV]
 ·unfold qcZ zCB
  have a1:atI (zAW n rows) cR=some (WU rows[n]):=by
   refine qcz ∅ (by unfold zAW;rw[Z9];omega) ?_;unfold zAW;rw[yk,ww,zA hn];show some (D.tup [.int rows[n].1,.lst (if n<n then []else rows[n].2.map gLD)])=_;rw[vJ Jn];rfl
  have a2:atI iZ cR=some (WU rows[n]):=qcz ∅ (by rw[zB];omega) (by rw[yk,zP,zA hn];rfl);have n3:=q4t (q8K (qcW rows[n]) (by decide));simp_arith -implicitDefEqProofs [a1,a2,n3]
 ·unfold qdB
  simp_arith -implicitDefEqProofs [rs,lc,eT]
theorem qjy{l:Zg}{w:vY}{K:zC}{h:vk}{mg:bG}{fa:vF}(X:K.In h)(G:h.Ns vZ mg)(hfa:mg "law" = some Ls){f0:vF}{f1:vF}{f2:vF}{f3:vF}{f4:vF}{f5:vF}{f6:vF}{f7:vF}{f8:vF}{f9:vF}{f10:vF}{f11:vF}{f12:vF}{f13:vF}{f14:vF}{f15:vF}{f16:vF}{f17:vF}{f18:vF}{f19:vF}{f20:vF}{f21:vF}{f22:vF}{f23:vF}{f24:vF}{f25:vF}{f26:vF}{f27:vF}{f28:vF}{f29:vF}{f30:vF}{f31:vF}{f32:vF}{f33:vF}{f34:vF}{f35:vF}{f36:vF}{f37:vF}{f38:vF}{f39:vF}{f40:vF}{f41:vF}{f42:vF}{f43:vF}{f44:vF}{f45:vF}{f46:vF}{f47:vF}{f48:vF}{f49:vF}{f50:vF}{f51:vF}(D0:Fd K "is_whole" q4A f0)(D1:Fd K "is_box" q6i f1)(D2:Fd K "is_errand" q3X f2)(D3:Fd K "check_errand" q2e f3)(D4:Fd K "stops" q7B f4)(D5:Fd K "gaps" q96 f5)(D6:Fd K "gap_edges" q3R f6)(D7:Fd K "leads_over" q3y f7)(D8:Fd K "crossed" q58 f8)(D9:Fd K "lack" q9J f9)(D10:Fd K "lacks" q7f f10)(D11:Fd K "neighbours" q1X f11)(D12:Fd K "group_of" q4u f12)(D13:Fd K "groups" q4a f13)(D14:Fd K "knots" q7D f14)(D15:Fd K "cost" q9k f15)(D16:Fd K "group_numbers" q1M f16)(D17:Fd K "with_two_joined" q1h f17)(D18:Fd K "forest" q69 f18)(D19:Fd K "groups_below" q0w f19)(D20:Fd K "levels" q4M f20)(D21:Fd K "weighed" q5s f21)(D22:Fd K "all_whole" q3U f22)(D23:Fd K "counts_of" q3T f23)(D24:Fd K "are_counts" q33 f24)(D25:Fd K "is_group" q4z f25)(D26:Fd K "are_groups" q3o f26)(D27:Fd K "holds_together" q1t f27)(D28:Fd K "is_level" q4v f28)(D29:Fd K "rise_from_one" q1H f29)(D30:Fd K "are_levels" q3p f30)(D31:Fd K "is_reason" q3S f31)(D32:Fd K "gap_weight" q3h f32)(D33:Fd K "weight" q6m f33)(D34:Fd K "reason" q0X f34)(D35:Fd K "least" q7h f35)(D36:Fd K "numbers_by_start" q0p f36)(D37:Fd K "as_many_begin_as_end" q0s f37)(D38:Fd K "round_from" q0T f38)(D39:Fd K "row_of" q6d f39)(D40:Fd K "row_between" q2F f40)(D41:Fd K "length" q64 f41)(D42:Fd K "lacking_arcs" q2b f42)(D43:Fd K "forest_arcs" q2J f43)(D44:Fd K "move_along" q3c f44)(D45:Fd K "tour" q9f f45)(D46:Fd K "_law_cell_at" q2d f46)(D47:Fd K "_law_whole" q3m f47)(D48:Fd K "_law_place" q37 f48)(D49:Fd K "_law_errand" q2E f49)(D50:Fd K "_law_counts" q2G f50)(D51:Fd K "law" q0F f51)(z11:yd K vZ "isinstance" = some none)(z12:yd K vZ "bool" = some none)(z13:yd K vZ "int" = some none)(z17:yd K vZ "len" = some none)(z18:yd K vZ "tuple" = some none)(z21:yd K vZ "list" = some none)(z22:yd K vZ "all" = some none)(z26:yd K vZ "sorted" = some none)(z27:yd K vZ "set" = some none)(z29:yd K vZ "zip" = some none)(z37:yd K vZ "enumerate" = some none)(z55:yd K vZ "abs" = some none)(z59:yd K vZ "sum" = some none)(z_reversed:yd K vZ "reversed" = some none)(z72:yd K vZ "range" = some none)(z14:IsT K .int)(z15:IsT K .bl)(z19:IsT K .tup)(z23:IsT K .lst): ∃fd:vO,(∀(s:vC)(v:vB),sf s fd ⟨[v],[]⟩ [("script", v)])/\∀base:vk,K.In base->base.Ns vZ mg->FnOk l.prog w K mg base CX0 13 fa fd Fl (spD K 1 q5x):=by
 have e:=hfa.symm.trans (xg X G D51.1);cases e;obtain⟨d0,F0⟩:=D0.2;obtain⟨d1,F1⟩:=D1.2;obtain⟨d2,F2⟩:=D2.2;obtain⟨d3,F3⟩:=D3.2;obtain⟨d4,F4⟩:=D4.2;obtain⟨d5,F5⟩:=D5.2;obtain⟨d6,F6⟩:=D6.2;obtain⟨d7,F7⟩:=D7.2;obtain⟨d8,F8⟩:=D8.2;obtain⟨d9,F9⟩:=D9.2;obtain⟨d10,F10⟩:=D10.2;obtain⟨d11,F11⟩:=D11.2;obtain⟨d12,F12⟩:=D12.2;obtain⟨d13,F13⟩:=D13.2;obtain⟨d14,F14⟩:=D14.2;obtain⟨d15,F15⟩:=D15.2;obtain⟨d16,F16⟩:=D16.2;obtain⟨d17,F17⟩:=D17.2;obtain⟨d18,F18⟩:=D18.2;obtain⟨d19,F19⟩:=D19.2;obtain⟨d20,F20⟩:=D20.2;obtain⟨d21,F21⟩:=D21.2;obtain⟨d22,F22⟩:=D22.2;obtain⟨d23,F23⟩:=D23.2;obtain⟨d24,F24⟩:=D24.2;obtain⟨d25,F25⟩:=D25.2;obtain⟨d26,F26⟩:=D26.2;obtain⟨d27,F27⟩:=D27.2;obtain⟨d28,F28⟩:=D28.2;obtain⟨d29,F29⟩:=D29.2;obtain⟨d30,F30⟩:=D30.2;obtain⟨d31,F31⟩:=D31.2;obtain⟨d32,F32⟩:=D32.2;obtain⟨d33,F33⟩:=D33.2;obtain⟨d34,F34⟩:=D34.2;obtain⟨d35,F35⟩:=D35.2;obtain⟨d36,F36⟩:=D36.2;obtain⟨d37,F37⟩:=D37.2;obtain⟨d38,F38⟩:=D38.2;obtain⟨d39,F39⟩:=D39.2;obtain⟨d40,F40⟩:=D40.2;obtain⟨d41,F41⟩:=D41.2;obtain⟨d42,F42⟩:=D42.2;obtain⟨d43,F43⟩:=D43.2;obtain⟨d44,F44⟩:=D44.2;obtain⟨d45,F45⟩:=D45.2;obtain⟨d46,F46⟩:=D46.2;obtain⟨d47,F47⟩:=D47.2;obtain⟨d48,F48⟩:=D48.2;obtain⟨d49,F49⟩:=D49.2;obtain⟨d50,F50⟩:=D50.2;obtain⟨_,F51⟩:=D51.2;obtain⟨_,_,kV,dc,pm,an,cd,ct,_,rfl,_,_⟩:=F51.ex;have y_isinstance:=yJ X G z11;have y_bool:=yJ X G z12;have y_int:=yJ X G z13;have y_len:=yJ X G z17;have y_tuple:=yJ X G z18;have y_list:=yJ X G z21;have y_all:=yJ X G z22;have y_sorted:=yJ X G z26;have y_set:=yJ X G z27;have y_zip:=yJ X G z29;have y_enumerate:=yJ X G z37;have y_abs:=yJ X G z55;have y_sum:=yJ X G z59;have y_reversed:=yJ X G z_reversed;have y_range:=yJ X G z72;refine⟨xv "law" "law" (WR q0F) (Xa q0F) (Y5 q0F) .none kV dc pm an cd ct,λs v=>.of_eq rfl,λbase _ _=>?_⟩;have C0:=qi l.prog w base X G D0 F0 (qam y_isinstance y_bool y_int z14 z15 F0);have C1:=qi l.prog w base X G D1 F1 (qdD y_isinstance C0 y_len y_tuple z19 F1);have C2:=qi l.prog w base X G D2 F2 (q9B y_isinstance C0 C1 y_list y_all z23 F2);have C3:=qi l.prog w base X G D3 F3 (q6A C2 F3);have C4:=qi l.prog w base X G D4 F4 (qfg C3 y_sorted y_set F4);have C5:=qi l.prog w base X G D5 F5 (qhJ y_list C4 y_zip F5);have C6:=qi l.prog w base X G D6 F6 (q9P C5 F6);have C7:=qi l.prog w base X G D7 F7 (q8v F7)
 have C8:=qi l.prog w base X G D8 F8 (qcB y_len C7 F8);have C9:=qi l.prog w base X G D9 F9 (qid C8 F9);have C10:=qi l.prog w base X G D10 F10 (qfb C5 C9 F10);have C11:=qi l.prog w base X G D11 F11 (q8j F11);have P11:zB9 _ _ _ _ _ _ _ _ _ _ _:=⟨q7z (P:=l.prog) (w:=w) (mg:=mg) (base:=base) F11,xg X G D11.1,F11.kp,F11.binds (ps:=fP) λ_ _ _ _ _ _ us hl=>(by obtain⟨_,_,rfl⟩:=us_2 hl;rfl)⟩;have C12:=qi l.prog w base X G D12 F12 (qad y_sorted F12);have C13:=qi l.prog w base X G D13 F13 (qdL y_sorted C11 C12 F13);have P13:zB9 _ _ _ _ _ _ _ _ _ _ _:=⟨qcr (P:=l.prog) (w:=w) (mg:=mg) (base:=base) F13 P11 C12 y_sorted,xg X G D13.1,F13.kp,F13.binds (ps:=fP) λ_ _ _ _ _ _ us hl=>(by obtain⟨_,_,rfl⟩:=us_2 hl;rfl)⟩;have C14:=qi l.prog w base X G D14 F14 (qfL y_list y_zip C5 C10 F14);have C15:=qi l.prog w base X G D15 F15 (qhp F15);have C16:=qi l.prog w base X G D16 F16 (q66 y_enumerate F16);have C17:=qi l.prog w base X G D17 F17 (q4R F17);have C18:=qi l.prog w base X G D18 F18 (qdb y_sorted C16 C13 C15 C17 F18);have C19:=qi l.prog w base X G D19 F19 (q6V C13 C15 F19);have P19:zB9 _ _ _ _ _ _ _ _ _ _ _:=⟨q63 (P:=l.prog) (w:=w) (mg:=mg) (base:=base) F19 C15 P13,xg X G D19.1,F19.kp,F19.binds (ps:=fW) λ_ _ _ _ _ _ us hl=>(by obtain⟨_,_,_,_,rfl⟩:=us_4 hl;rfl)⟩;have C20:=qi l.prog w base X G D20 F20 (qdV y_sorted y_set C15 C18 C19 F20);have P20:zB9 _ _ _ _ _ _ _ _ _ _ _:=⟨qcf (P:=l.prog) (w:=w) (mg:=mg) (base:=base) F20 C18 C15 P19 y_sorted y_set,xg X G D20.1,F20.kp,F20.binds (ps:=bv) λ_ _ _ _ _ _ us hl=>(by obtain⟨_,_,_,rfl⟩:=us_3 hl;rfl)⟩;have C21:=qi l.prog w base X G D21 F21 (qc7 y_len F21);have C22:=qi l.prog w base X G D22 F22 (qa3 C0 y_all F22);have C23:=qi l.prog w base X G D23 F23 (q9j C5 C8 F23);have C24:=qi l.prog w base X G D24 F24 (q8s y_all C22 F24);have C25:=qi l.prog w base X G D25 F25 (qau y_isinstance y_len y_list z23 C22 F25);have C26:=qi l.prog w base X G D26 F26 (q8q y_isinstance y_list y_all z23 y_sorted C25 F26);have C27:=qi l.prog w base X G D27 F27 (q5L y_all C16 F27);have C28:=qi l.prog w base X G D28 F28 (qav y_isinstance C0 y_len y_tuple z19 C15 C26 C27 F28);have C29:=qi l.prog w base X G D29 F29 (q6f y_all y_zip F29);have C30:=qi l.prog w base X G D30 F30 (q8m y_isinstance y_list y_all z23 C4 C14 C6 C28 C29 F30)
 have C31:=qi l.prog w base X G D31 F31 (qa0 y_isinstance y_len y_tuple z19 C3 C30 C24 C23 F31);have C32:=qi l.prog w base X G D32 F32 (q8z y_abs F32);have C33:=qi l.prog w base X G D33 F33 (qd8 y_zip C10 C31 C32 C21 y_sum F33);have C34:=qi l.prog w base X G D34 F34 (qeU C4 C14 C6 C23 C20 F34);have P34:zB9 _ _ _ _ _ _ _ _ _ _ _:=⟨qcj (P:=l.prog) (w:=w) (mg:=mg) (base:=base) F34 C6 C14 C4 C23 P20,xg X G D34.1,F34.kp,F34.binds (ps:=ao) λ_ _ _ _ _ _ us hl=>(by obtain⟨_,_,_,rfl⟩:=us_3 hl;rfl)⟩;have C35:=qi l.prog w base X G D35 F35 (qgb C33 C34 F35);have C36:=q4Q (P:=l.prog) (w:=w) (mg:=mg) (base:=base) F36 y_enumerate;have C37:=qi l.prog w base X G D37 F37 (q3B y_sorted F37);have C38:=qi l.prog w base X G D38 F38 (q8t F38 C36 (xg X G D36.1) F36.kp (F36.binds (ps:=ED) λ_ _ _ _ _ _ us hl=>(by obtain⟨_,rfl⟩:=us_1 hl;rfl)) y_list y_reversed);have C39:=qi l.prog w base X G D39 F39 (qda y_len C37 C38 F39);have C40:=qi l.prog w base X G D40 F40 (q7y y_len C39 F40);have C41:=qi l.prog w base X G D41 F41 (qec y_abs y_sum F41);have C42:=qi l.prog w base X G D42 F42 (q6L y_zip C5 C10 y_abs F42);have C43:=qi l.prog w base X G D43 F43 (q7j C4 C18 C14 C6 F43);have C44:=qi l.prog w base X G D44 F44 (q8o y_len F44);have C45:=qi l.prog w base X G D45 F45 (qhB C42 C43 C40 C44 F45);have C46:=qi l.prog w base X G D46 F46 (q6C y_len F46);have C47:=qi l.prog w base X G D47 F47 (q8n y_isinstance y_bool y_int z14 z15 F47);have C48:=qi l.prog w base X G D48 F48 (q8i F48);have C49:=qi l.prog w base X G D49 F49 (q7I y_len C46 C48 y_range F49);have C50:=qi l.prog w base X G D50 F50 (q7u C5 C8 F50);exact qjG F51 C49 C34 C50 C31 C5 C20 C14 C4 C35 C47 C41 C45 C33 P34 y_list y_isinstance y_tuple y_len y_range z19
theorem walk{l:Zg}{q:vU}{loose:cg}{XP:Tw}{YP:SR}{d:DefRec}{K:Params->zC}(hn:l.most=some 63)(hdf:Hr)(hY:∀(w:vY)(h:vk),YP w h->(K w.params).In h)(F:∀(w:vY)(mg:bG)(fa:vF)(h:vk),(K w.params).In h->h.Ns vZ mg->mg d.name=some Ls ->
   ∃fd:vO,(∀(s:vC)(u:vB),sf s fd SF [("script", u)])/\∀base:vk,(K w.params).In base->base.Ns vZ mg->FnOk l.prog w Ei mg base CX0 13 fa fd Fl (spD Ei 1 q5x)) :
  Yt q loose XP YP l.row.toRowW d [] BP :=
 L2.qbl (n:=63) (k:=13) (x := "script") (CX:=λ_=>CX0) (sp:=λw=>spD Ei 1 q5x) hn (by decide) hdf ⟨rfl,by decide,by decide⟩ hY F
  (λ_ H a ns hl _ hS=>⟨H,[Cg],.sh cU,qg8 ns hl,rfl,dC,⟨dH,[],rfl,⟨a,rfl,hS⟩,rfl⟩,λ_ _ _ _ y=>y⟩) λ_ _ _ _ _ z=>z
end Kx
end
namespace PySem.W.Fast
def tw13119355503494726757:=0
def tw17778677823611240639:=0
def tw17158659886470316267:=0
def tw5713323868007500652:=0
def tw7741011203482570852:=0
def tw8916615292463083333:=0
def tw12831686951403522212:=0
def tw11045511227254065954:=0
def tw11744128419348697036:=0
def tw15639516755933807403:=0
def tw9734860856058305714:=0
def tw9356970558093201518:=0
def tw6697356098207165017:=0
def tw6348366208928115491:=0
def tw8664757810830184700:=0
def tw14147443030010831299:=0
def tw16728549600562090160:=0
def tw15242341014040064948:=0
def tw4561858003666571839:=0
def tw7874744109621728199:=0
def tw11485361147857314288:=0
def tw10112586475533801884:=0
def tw4925050537988745670:=0
def tw12864039354318053695:=0
def tw2150828991528762138:=0
def tw155697458220217499:=0
def tw3231653935041959579:=0
def tw17617790349002693978:=0
def tw12224325397717773209:=0
def tw11991864019275913277:=0
def tw12152495140440295457:=0
def tw341076569723252524:=0
def tw14044636741214769107:=0
def tw14658669618705554830:=0
def tw3751010132978560225:=0
def tw1734958552502826343:=0
def tw14418538904861159674:=0
def tw16520940523469001735:=0
def tw5802507485744602028:=0
def tw18024983406038286363:=0
def tw9931945012731516731:=0
def tw14670497350327728815:=0
def tw11665810683212486660:=0
def tw3809512350553070245:=0
def tw3349094298336824056:=0
def tw3077733915635817263:=0
def tw17505900192536665256:=0
def tw8523814655094048230:=0
def tw14859207499879516758:=0
def tw15114611684943661711:=0
def tw10174755164708716368:=0
def tw12504543009769283584:=0
def tw17776430418519328627:=0
def tw9239874920971688369:=0
def tw12573278962368344871:=0
def tw3298823010748583848:=0
def tw4580309265964954073:=0
def tw1462648473690028452:=0
def tw4553115640219933924:=0
def tw2344824842648429536:=0
def tw11409834921495804601:=0
def tw14783343913141865229:=0
def tw13285753495698718335:=0
def tw5168680415369107905:=0
def tw16559657019797053349:=0
def tw14739075632071011349:=0
def tw1496925469129272351:=0
def tw4700613612730091745:=0
def tw13087798137938426746:=0
def tw9112086836862845054:=0
def tw9182921816756011898:=0
def tw9201375155127407164:=0
def tw11149224496370958498:=0
def tw11564184326162343225:=0
def tw6596328406307595508:=0
def tw7941481613811779333:=0
def tw17447262390787946769:=0
def tw4737584257270895626:=0
def tw2089128480768138192:=0
def tw16920711433787251388:=0
def tw14786664466911930438:=0
def tw7132824637742985158:=0
def tw15091883139784738497:=0
def tw10695814725278905314:=0
def tw1790780516446645649:=0
def tw14576308251930198393:=0
def tw15616130757683090824:=0
def tw15668445721904317958:=0
def tw14496932950005164751:=0
def tw16237195022417733909:=0
def tw6528728365787582010:=0
def tw15480512889839258666:=0
def tw16345952201201442244:=0
def tw12978822078270262567:=0
def tw6359787917625014399:=0
def tw3561897735372507649:=0
def tw9869950699854442107:=0
def tw16438850112421802698:=0
def tw6559157185254218936:=0
def tw8172665911012514154:=0
def tw5696905283348726628:=0
def tw3279610436332602003:=0
def tw6053297193481803380:=0
def tw8071089674737765341:=0
def tw14514219521318391646:=0
def tw5923990790186702884:=0
def tw5014667603235848859:=0
def tw4436008634319925049:=0
def tw9719877710279449740:=0
def tw7969140031799589745:=0
def tw8205686547246836363:=0
def tw6986988974871168944:=0
def tw14403427038135804900:=0
def tw15678171932382408531:=0
def tw570127275302621512:=0
def tw10970822402363106592:=0
def tw5788421601749663825:=0
def tw15985744236192769227:=0
def tw8319215928768798767:=0
def tw6890949776367307063:=0
def tw13055505368361172777:=0
def tw2502009389443049880:=0
def tw6563193706222601145:=0
def tw17375927004938483164:=0
def tw7937643356107280858:=0
def tw13720343707124319735:=0
def tw5925983053352861499:=0
def tw12015590973078676024:=0
def tw9744504471734840128:=0
def tw12233100038685787996:=0
def tw15696343540210866281:=0
def tw8002157700335293855:=0
def tw4086687956358820288:=0
def tw5078715222573253172:=0
def tw6144858812534230850:=0
def tw4095296332981819787:=0
def tw11932637570505145652:=0
def tw14272711769304535103:=0
def tw11985706731548968027:=0
def tw10274890216682938838:=0
def tw6617417123026866134:=0
def tw10634687244382917540:=0
def tw14684357388199575296:=0
def tw5785312317768885296:=0
def tw7949528950324845384:=0
def tw13168712897032508464:=0
def tw13297507044763924464:=0
def tw13893177794890246594:=0
def tw9815054193852953053:=0
def tw2349466271194824262:=0
def tw16771078122380356568:=0
def tw13334004890874074440:=0
def tw3069332314026196040:=0
def tw7379259724194808601:=0
def tw8058844571360860998:=0
def tw12931737413762391639:=0
def tw3823759751457667519:=0
def tw16722734491587373444:=0
def tw12280294211763809737:=0
def tw3886561281300164297:=0
def tw7033646532794607256:=0
def tw3259083651886663836:=0
def tw16296427883421409573:=0
def tw1093130831686758614:=0
def tw13436838832573270161:=0
def tw6966083411102353151:=0
def tw11483902361881711956:=0
def tw8346557554682842116:=0
def tw2970043449817354649:=0
def tw12156377446026121372:=0
def tw13550310040648498994:=0
def tw12768640819224915909:=0
def tw4983163779404338441:=0
def tw69707871022852071:=0
def tw12500735273949518100:=0
def tw6731298119229189570:=0
def tw16744108872918718307:=0
def tw17863675149451143665:=0
def tw8968817883427617649:=0
def tw7660309906836849711:=0
def tw1191651658331387399:=0
def tw17028704559641761689:=0
def tw6443111916717961917:=0
def tw13272382502493587037:=0
def tw18366363764664374272:=0
def tw11913228541365021567:=0
def tw15818409185091595878:=0
def tw13550558953612302136:=0
def tw4716996117748583435:=0
def tw15097903909945753529:=0
def tw12713449707558979480:=0
def tw133801974297770641:=0
def tw3544540832792213152:=0
def tw13735724013214415923:=0
def tw9473956869544869752:=0
def tw3086491827182907483:=0
def tw13188517870500041544:=0
def tw12692451255018868694:=0
def tw8424028430918221235:=0
def tw6829862504647989281:=0
def tw15210706878671450619:=0
def tw2170803624631209686:=0
def tw14100997374719598244:=0
def tw16584685328833536130:=0
def tw15529214204461040317:=0
def tw543155184805885384:=0
def tw16576026824561821605:=0
def tw5689544441089035127:=0
def tw18332853277744927505:=0
def tw3697434688921731703:=0
def tw9184991998442361353:=0
def tw4435221130669289306:=0
def tw9502860440886752652:=0
def tw12360355421037948849:=0
def tw3752394725600518692:=0
def tw11263899999399759387:=0
def tw1264846819597060457:=0
def tw3012292107703944089:=0
def tw11650291529496468033:=0
def tw16154731776907264256:=0
def tw17367890003910745819:=0
def tw15062750818014737861:=0
def tw14199383221813749542:=0
def tw17853433757931388652:=0
def tw5171420189797692191:=0
def tw17098230355676623141:=0
def tw12584840637814262361:=0
def tw7273564013316738207:=0
def tw12976101256319762186:=0
def tw8131687976068147153:=0
def tw2048042896941860697:=0
def tw6752227292996817990:=0
def tw10280515013494620628:=0
def tw8525551877006710433:=0
def tw12970691939433981806:=0
def tw13216852947182012934:=0
def tw6330435256277266783:=0
def tw7166191432008642467:=0
def tw11991783168769345797:=0
def tw12751905559526193934:=0
def tw2333190020933796918:=0
def tw2685904087170198389:=0
def tw7702285890792692843:=0
def tw1689515144676150632:=0
def tw248860832375173876:=0
def tw12280587504361958932:=0
def tw4325767156540397327:=0
def tw16699160700524544125:=0
def tw5885043552874901192:=0
def tw176819781678224692:=0
def tw17147152661552980834:=0
def tw13297438892886204043:=0
def tw10726817770226286309:=0
def tw1010633043566335680:=0
def tw7898385622456935162:=0
def tw11833770162113295002:=0
def tw5776296537824222910:=0
def tw17969901648081241049:=0
def tw9575200399050931835:=0
def tw9840440473148248224:=0
def tw10491554484017198373:=0
def tw13267287052430388528:=0
def tw17696811997374881632:=0
def tw8943860932186922880:=0
def tw2428907428239026257:=0
def tw7755520518104341886:=0
def tw4857615819686381434:=0
def tw3618343349544532534:=0
def tw6556016979971745471:=0
def tw3287859803310312995:=0
def tw11024937296736054076:=0
def tw14784709719473016641:=0
def tw12642967373748465298:=0
def tw1165517580571663615:=0
def tw10109415962159170410:=0
def tw16363969560028635422:=0
def tw9467739191879804120:=0
def tw14868988398016273425:=0
def tw12003851955828916016:=0
def tw5718814747463392279:=0
def tw11766846292072879614:=0
def tw4605638713470815439:=0
def tw10897489385762955005:=0
def tw8116662929571899076:=0
def tw5459668567052555173:=0
def tw676241101478721104:=0
def tw11950501319268849161:=0
def tw964902034729430650:=0
def tw5313781756549083088:=0
def tw13573570974124673321:=0
def tw7237693174338390002:=0
def tw11228544445760511961:=0
def tw1907799009485734874:=0
def tw15899689730335304865:=0
def tw10767243957596641837:=0
def tw9826165509448450553:=0
def tw14724307806669803760:=0
def tw8464792653515687399:=0
def tw11595496294623605934:=0
def tw10122173950797383800:=0
def tw17124894450384710023:=0
def tw14237431857142518771:=0
def tw4950934887915746313:=0
def tw7166858680363717119:=0
def tw12603242194901747780:=0
def tw18380132484710855575:=0
def tw9901959116766420332:=0
def tw870979323893668665:=0
def tw8108816090627877811:=0
def tw10524623282443040111:=0
def tw17429138547074654302:=0
def tw11495528299429615801:=0
def tw13937376267169498380:=0
def tw654735328450678833:=0
def tw5913203499187674782:=0
def tw8482576003290604856:=0
def tw2503470071805049171:=0
def tw503237137900433490:=0
def tw7949056789858524163:=0
def tw16226067589855733244:=0
def tw17955421218771833229:=0
def tw18166499097751834682:=0
def tw9943793762816506002:=0
def tw16726964249840851855:=0
def tw1721923910285637470:=0
def tw4180057865605539687:=0
def tw6962336967506098618:=0
def tw12033836742779165480:=0
def tw11250508374765376310:=0
def tw11773619708059507605:=0
def tw8332824117123747280:=0
def tw16415583629219645687:=0
def tw1646078226471974927:=0
def tw10697877005175943182:=0
def tw1218411401293004469:=0
def tw9606235255018008776:=0
def tw8413572196010476995:=0
def tw6443150421410354680:=0
def tw7188481063760470842:=0
def tw13974178408489450985:=0
def tw4098628901563360677:=0
def tw1509116728603147365:=0
def tw17596897821709415911:=0
def tw7380967641285980009:=0
def tw17389035036463715888:=0
def tw6145285757968960739:=0
def tw12387510944318275411:=0
def tw16363923125226238394:=0
def tw6713052559501789560:=0
def tw13667733768209160866:=0
def tw1109733195777409970:=0
end PySem.W.Fast
open PySem PySem.W PyProof.Rows
set_option maxRecDepth 100000 in
set_option maxHeartbeats 0 in
theorem PySem.Challenge.cw_hookrail_k42_the_told_reason_holds : PySem.Challenge.rw_hookrail_k42_the_told_reason.Holds := by
 w_on;o_law;k_head;(case hw=>w_witness2)
 k_fill
 refine Kx.walk (l:=PySem.Challenge.rw_hookrail_k42_the_told_reason) rfl rfl (λw h Y=>Yl Y) ?F
 case F =>
  intro w mg fa h KX G hmg;refine' Kx.qjy KX G hmg ?D0 ?D1 ?D2 ?D3 ?D4 ?D5 ?D6 ?D7 ?D8 ?D9 ?D10 ?D11 ?D12 ?D13 ?D14 ?D15 ?D16 ?D17 ?D18 ?D19 ?D20 ?D21 ?D22 ?D23 ?D24 ?D25 ?D26 ?D27 ?D28 ?D29 ?D30 ?D31 ?D32 ?D33 ?D34 ?D35 ?D36 ?D37 ?D38 ?D39 ?D40 ?D41 ?D42 ?D43 ?D44 ?D45 ?D46 ?D47 ?D48 ?D49 ?D50 ?D51 ?z11 ?z12 ?z13 ?z17 ?z18 ?z21 ?z22 ?z26 ?z27 ?z29 ?z37 ?z55 ?z59 ?z_reversed ?z72 ?z14 ?z15 ?z19 ?z23
  (case D0|D1|D2|D3|D4|D5|D6|D7|D8|D9|D10|D11|D12|D13|D14|D15|D16|D17|D18|D19|D20|D21|D22|D23|D24|D25|D26|D27|D28|D29|D30|D31|D32|D33|D34|D35|D36|D37|D38|D39|D40|D41|D42|D43|D44|D45|D46|D47|D48|D49|D50|D51=>(refine' Hk.qjU ?a ?l ?c ?k;(case a=>k_is);(case l=>k_is);(case c=>k_is);(case k=>k_is)))
  (case z11|z12|z13|z17|z18|z21|z22|z26|z27|z29|z37|z55|z59|z_reversed|z72=>k_is)
  (case z14=>intro t ht;cases t <;> first|(exact absurd rfl ht)|rfl|k_is)
  (case z15=>intro t ht;cases t <;> first|(exact absurd rfl ht)|rfl|k_is)
  (case z19=>intro t ht;cases t <;> first|(exact absurd rfl ht)|rfl|k_is)
  (case z23=>intro t ht;cases t <;> first|(exact absurd rfl ht)|rfl|k_is)
#print axioms PySem.Challenge.cw_hookrail_k42_the_told_reason_holds
