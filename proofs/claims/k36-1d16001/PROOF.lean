import PyProof.Rows.All
import Wide.All
import OpenK.AllK
import Wide.FinOn
import Lean
import PyProof.EqAt
import PyProof.EqKinds
import PyProof.TupleCall
import PyProof.AutoListH
import PyProof.ExcBaseAll.ValueError
import PyProof.ExcAttrAll.ValueError
import PyProof.Logic
import PyProof.StrReplace2
import PySem.Challenge.RW_roadsettings_k36_put_back
open PySem.W renaming Frag→Qa, nsIn→Qr, findIn→Qx, mg_none_of→QP, looks_findIn→QQ, kia_one→QW, emptyDict→Gk, mg_of→GD, instObj→GE, Looks→GK, keepIn→GO, callWith_K→JW, fnOf→Pg, methodCall_KW→Pw, plainGet→Pz, plainGet_of→Tf, lookIn→Tv, kitOne→Tw, methodObj→TU, hasDictIn→TX, codeHdIn→Sy, isFn→SN, cellsFrom_some→SQ, takerIn→Rb, makesIn→Rc, OpenLaw→Ri, codeIn→Rx, callWith_K0→RZ, kla_makeFunctionHit→Ob, kla_fn→OG, plainOver→OO, kitx_list→OQ, kitx_dict→OR, handedIn→Nj, tabObj→Nr, kla_makeFunction→Nt, codeHd_of_K→NL
open PySem renaming Value→Qb, Shared→Qe, wpAny_bind→Qg, sizeLine→Qi, Program→Qk, mainGlobals→Ql, FuncData→Qm, wpAny_pure→Qp, wpAny→Qq, model→Qt, World→Qv, starEach→QE, Around→QF, wpAny_loadPart_at→QI, boot_len→QM, wpAny_mono→QS, sizeLine_eq→QU, wpAny_Call_Name_kw→QV, typeLookup→QY, wpAny_holding→Ge, rawInt→Gf, wpAny_newObj_type→Gj, wpAny_isSubtype_exc→Gs, checkBuiltinCall→Gx, wpAny_standAt→Gz, codeAny_mono→GA, wpAny_truthy_bool→GC, compareOp→GL, wpAny_passesOwn→GT, foldedSetIterable→GW, strIterType→GX, codeAny_call_builtin→GY, excClassObj→GZ, sysModules→Jc, mem_of_lookup→Jf, backTo→Jg, wpAny_getItem_str_slice→Jh, keywordEach→Jk, tupleKind_room_in1→Jm, binaryOp→Jn, behindInMarks→Jp, attributeBase→Jq, Builtin→Jy, bindName→JC, wpAny_call→JF, wpAny_field→JG, call_meets→JH, codeAny→JU, bootBuiltins→Pc, holding→Pd, wpAny_bindName→Pe, NameKind→Pf, wpAny_pyIter_enum→Pk, plainObj_wpAny_Assign_Attribute→Ps, assignInOrder→PJ, wpAny_loadName_local→PP, backToKw→PQ, wpAny_execs_nil→PU, letOwnedTupleGo→PV, post_val_or_str→PZ, PyData→Ta, codeAny_builtin→Tc, swapsWith→To, getMethod→Tq, builtinsNs→Tr, assignEach→Tt, wpAny_newFunctionEnv_cells→Tz, wpAny_letOwnedTupleGo_enum→TJ, standAt→TV, Paired→Sf, wpAny_comprehension_free→Sk, tupleKind→Sm, wpAny_execs_cons→Sn, callWith→Sq, wpAny_pyNext_enum_itemD→Sw, getItem→SU, wpAny_typeOf→SV, cLine→Re, wpAny_isTrue_Compare1→Rl, assign→Rt, recursionLimit→Ru, bindArgs→Rv, subscripted→Ry, wpAny_newFunctionEnv→RB, lookup_relabel_local→RC, wpAny_of_eq→RF, wpAny_setField→RJ, unbindBehindTheSuite→RL, BindsTo→RO, Arguments→RP, seqIndex?→RQ, callerA→RS, valueAt→RU, Fin→RV, wpAny_loadName_cell→RW, wpAny_Tuple_spliced→RY, wpAt_of_wpAny→Od, Model→Oh, swapsWithSole→Oj, swappedStores→Ol, wpAny_Name→Ov, wpAny_Constant_int→Ow, wpAny_rule→Ox, wpAny_pyIter_tuple→Oy, Result→Oz, IsPart→OA, getattributeRaised→OH, Within→OJ, GenState→OL, wpAny_assign_Name→OM, Keyword→OT, wpAny_evalAll_nil→OU, seqIndex_neg→OX, call_meetsIn→OY, wpAny_pyIter_strU→OZ, wpAny_lookBehind→Nk, pastItsLine_dict→Nl, noFill_tuple_add→Nn, codeAmong→Nu, take_succ_filter→NB, wpAny_madeBy_exc→NC, bindL→NH, seqIndex_of→NI, atKey→NJ, exec_Assign_arm→NN, call_tuple_list→NP, codeAny_of_tree→NU, wpAt_bind→NX
open PySem.Heap renaming get?_push_of_some→Qd, lt_size→Qj, get?_push_size→Qs, get?_update_other→Gm, get?_update_self→Js, size_push→JE, size_after_update→Pr, get?_none_of_le→PM, get?_update_ne→Th, size_update→Sx, SameBut→SK, get?_push_cases→RG, get?_push_ne→Nb, get?_push_at→Ng
open List renaming getElem?_eq_some_iff→Qf, replicate→Qy, range→Gd, lookup→GB, mem_iff_getElem?→GR, mem_append_left→GV, getElem?_cons_succ→Ji, filter_cons_of_pos→Jj, eq_nil_or_concat→Ju, concat_eq_append→Jv, flatten_cons→Jx, take_length→JL, pairwise_iff_getElem→JN, filterMap_cons→JO, eq_of_mem_replicate→JR, length_zip→JV, eraseIdx_cons_succ→Pa, filter_cons_of_neg→Pb, pairwise_map→Pm, take_of_length_le→Po, nodup_append→Pp, eraseIdxIfInBounds_toArray→Pu, getElem?_zipWith→Py, length_drop→PD, getElem_mem→PF, getElem?_set_ne→PN, eq_nil_of_length_eq_zero→PR, length_nil→PY, range_succ→Tb, dropLast_concat_getLast→Te, map_congr_left→Tg, filter_sublist→Ti, filter_filter→TM, getElem?_eq_none_iff→TQ, length→TZ, flatMap_cons→Sb, length_range→Sc, ext_getElem?→Sd, filter_congr→Se, set_comm→Sg, cons_append→Ss, not_mem_nil→SE, perm_middle→SJ, getElem?_set_self→SL, map_nil→SW, foldl_cons→Rf, all_append→Rj, filter_nil→Rk, length_dropLast→RA, mem_map_of_mem→Oc, length_zipWith→Of, filter_eq_self→Og, any_cons→On, sum_cons→Oq, all_cons→Os, filterMap_map→OB, foldl→OD, getElem?_drop→OE, take_sublist→OV, all_nil→Nf, map_fst_zip→Nv, any_eq_true→Nx, filter_cons→NA, append_inj'→NF, forIn_cons→NT, zip_append→NY
open Nat renaming le_refl→Qh, le_trans→Qn, ne_of_lt→Qw, zero_le→QC, lt_of_lt_of_le→QD, lt_of_le_of_lt→QO, sub_self→Gc, not_lt→Go, le_succ→Gu, le_of_lt→GH, lt_irrefl→GJ, ne_of_gt→Jl, lt_succ_of_lt→Jz, mul_le_mul_right→JI, le_of_eq→JK, lt_succ_self→So, pow_le_pow_right→RE, add_le_add_left→Oa, min_self→Na, pow_zero→Nc, min_le_right→No, succ_ne_self→Nq, mod_eq_of_lt→Ny, le_add_right→Nz, log2_lt→NK, mod_one→NM, min_le_left→NW
open PySem.Value renaming ref→Qo, none→QX, bool→GM, builtin→JS, str→Tn, int→RN, type→Ou, float→NG
open Sum renaming inr→Qu, inl→QT
open Or renaming inl→Qz, inr→SX
open PySem.Str renaming ofString→QA
open PySem.F renaming plainAttrs_list→QB, slot_list_append→QJ, type_list_append→QK, excBase_ValueError→GQ, typeOf_object_class→JB, store_ValueError→JT, slot_list_pop→JX, slot_dict_get→Px, attrBase_ValueError→Tl, slot_tuple_getattribute→TN, args_tuple_add_2→Sj, entry_tuple_add→Sr, args_dict_get_2→Su, plainAttrs_dict→Sv, slot_dict_items→SD, slot_list_count→SH, slot_list_index→SI, slot_tuple_add→SS, entry_dict_get→SY, plainAttrs_str→Ra, slot_str_join→Rn, type_str_join→Ro, type_list_pop→Rp, entry_list_pop→Np, slot_int_rmul→NQ
open Option.some renaming inj→QG
open Bool renaming false_ne_true→QH, and_eq_true→QL, false_eq_true→GP, not_eq_true'→JA, eq_iff_iff→PX, or_true→SZ, or_eq_true→Rg, and_true→Ot
open False renaming elim→QN
open Option renaming map_eq_some_iff→QR, map_some→GU, isSome_iff_exists→JQ, isSome_map→Sa
open PySem.Obj renaming mapSeq→QZ, mapFields→Gg, data_mapFields→TK, isFreed_of_fields→Rm
open Array renaming getElem?_eq_some_iff→Ga, length_toList→GG, getElem?_toList→Jt, toArray_toList→RH
open PySem.Builtin.Str renaming reprChar→Gb, strSliceIndices→Tk
open PySem.PyData renaming depthAll→Gh, shown→GI, canLayAll0→Ja, hasDictAll→Pj, shownAll→Td, hasDict→RD, list→RM, showableAll→OI, tuple→Nh
open PySem.PassesOwn renaming never→Gi
open PyProof.Rows renaming seqObj→Gp, slot_tuple_getitem→Gq, assignInOrder_cons→GN, callWith_type1→Jw, subscriptTail_builtinR→Ph, envOfC→PB, StrsAre→PL, AllBare→Tj, assignInOrder_nil→TW, listUpdate_at→Sl, get?_update_seq→Rh, IsTup→Rq, Constant_none→Oi, subscriptTail→Om, arrOf→Op, Subscript_→OC, size_push'→OF, unpackItems_tuple→ON, callWith_builtin1→Nm, IntsAre→NZ, signs_ofString→Ma
open Ne renaming symm→Gv
open True renaming intro→Gw
open Int renaming emod_lt_of_pos→Gy, emod_nonneg→GF, fdiv_eq_ediv_of_nonneg→JD, fmod_eq_emod_of_nonneg→Tu, ediv_one→OW
open PySem.Builtin.Slice renaming slicePlaces→GS, sliceAdjust→JM, sliceApplied→TD, slicePartIndex→NO
open PySem.Paired renaming length→Jb
open PySem.Builtin.Tuple renaming tupleExact→Jd
open PySem.Builtin.List renaming listTooLong→Je
open ForInStep renaming yield→Jo
open PySem.NameKind renaming free→Jr
open List.Perm renaming swap→JJ, nil_eq→Nw
open PySem.Heap.SameBut renaming update→JP
open PySem.Code renaming quiet_builtin→JY, isFrame→OS
open Sum.inr renaming inj→JZ
open PySem.Calls renaming callWith_builtin→Pi, Name_function_global→Ts, spliced_cons→Tx, spliced_nil→TY, evalArgs_plain→Rz, call_len_list→RX
open PySem.Builtin.ObjectAttr renaming storeInDict→PH, newKeyGuard→ND
open PyProof.Rows.IsTup renaming new→Tp
open PySem.Builtin.Dict renaming updateFrom→Sz
open PySem.Challenge renaming pw_roadsettings_k36_put_back→SG
open PyProof renaming noPylong_small→SM
open PySem.Around renaming under→SO, frames_deeper→Rw, under_plainId→RI
open PySem.EntryCells renaming newEntry→Oe
open PySem.Shared renaming TypeIs→Oo
open PySem.Heap.Ns1 renaming of_empty→OP
open PySem.Flow renaming next→Ni
open PySem.W.Looks renaming ld→NE
open PySem.Heap.DictOf renaming new→NR
open Array.Perm renaming refl→NV
set_option Elab.async false
set_option linter.all false
set_option maxRecDepth 100000
set_option maxHeartbeats 4000000
open List (all_eq_true append_assoc append_nil contains_cons filter_append find?_cons getD_eq_getElem?_getD getElem?_append_left getElem?_append_right getElem?_eq_getElem getElem?_map getElem?_set getElem?_zip_eq_some length_append length_cons length_eq_zero_iff length_filter_le length_map length_replicate length_set length_singleton length_take lookup_cons map_append map_cons map_map map_set mem_append mem_append_right mem_cons mem_cons_of_mem mem_cons_self mem_filter mem_filterMap mem_map mem_of_getElem? mem_range mem_singleton nodup_cons of_mem_zip replicate_succ size_toArray take_add_one)
local macro_rules | `(tactic| omega) => `(tactic| lia)
namespace L2
open PySem PySem.Spec PyProof.Rows
abbrev Zn:=Sum Int Str
def Vm:Zn->Qb->Bool
 | .inl k,v=>Value.isInt k v
 | .inr x,v=>Value.isStrOf x v
def keyH (w:Qv):Zn->Int
 | .inl k=>hashInt k
 | .inr x=>hashStr w x
theorem Yh:∀{k:Zn}{v:Qb},Vm k v=true->(∃ i t,k=QT i/\v=RN i t)\/(∃ x t,k=Qu x/\v=Tn x t)
 | .inl i,v,h=>by
  obtain ⟨t,e⟩:=Value.isInt_shape (k:=i) (v:=v) h
  exact .inl ⟨i,t,rfl,e⟩
 | .inr x,v,h=>by
  obtain ⟨t,e⟩:=Value.isStrOf_shape (x:=x) (v:=v) h
  exact .inr ⟨x,t,rfl,e⟩
theorem Zhw (i:Int)(t:Tok):Vm (.inl i) (.int i t)=true:=by simp [Vm,Value.isInt]
theorem ZhU (x:Str)(t:Tok):Vm (.inr x) (.str x t)=true:=by simp [Vm,Value.isStrOf]
theorem Zmu (a b:Int):decide ((QT a:Zn)=QT b)=(a == b):=by
 by_cases e:a=b
 ·subst e;simp
 ·have h:¬ (QT a:Zn)=QT b:=fun q=>e (Sum.inl.inj q)
  rw [decide_eq_false h]
  exact (beq_eq_false_iff_ne.mpr e).symm
theorem ZnN (a b:Str):decide ((Qu a:Zn)=Qu b)=decide (a=b):=by
 by_cases e:a=b
 ·subst e;simp
 ·have h:¬ (Qu a:Zn)=Qu b:=fun q=>e (JZ q)
  rw [decide_eq_false h,decide_eq_false e]
theorem Znm (a:Int)(b:Str):decide ((QT a:Zn)=Qu b)=false:=decide_eq_false (fun q=>nomatch q)
theorem ZnF (a:Str)(b:Int):decide ((Qu a:Zn)=QT b)=false:=decide_eq_false (fun q=>nomatch q)
def ZN (prog:Qk)(w:Qv):PySem.KeyKind prog w Zn where
 is:=Vm
 hash:=keyH w
 inj := fun v a b ha hb=>by
  rcases Yh ha with ⟨i,t,rfl,rfl⟩ | ⟨x,t,rfl,rfl⟩
  ·rcases Yh hb with ⟨j,u,rfl,e⟩ | ⟨y,u,rfl,e⟩
   ·injection e with e1 _;rw [e1]
   ·exact nomatch e
  ·rcases Yh hb with ⟨j,u,rfl,e⟩ | ⟨y,u,rfl,e⟩
   ·exact nomatch e
   ·injection e with e1 _;rw [e1]
 byValue:=fun k v h=>by
  rcases Yh h with ⟨i,t,rfl,rfl⟩ | ⟨x,t,rfl,rfl⟩<;>rfl
 pyHash:=fun hv h=>by
  rcases Yh hv with ⟨i,t,rfl,rfl⟩ | ⟨x,t,rfl,rfl⟩
  ·exact wpAny_pyHash_int h
  ·exact wpAny_pyHash_str h
 eqBool:=fun hu hv h=>by
  rcases Yh hu with ⟨i,t,rfl,rfl⟩ | ⟨x,t,rfl,rfl⟩
  ·rcases Yh hv with ⟨j,u,rfl,rfl⟩ | ⟨y,u,rfl,rfl⟩
   ·rw [Zmu] at h;exact wpAny_eqBool_int h
   ·rw [Znm] at h;exact SeqAt.EqAt.int_str i t y u _ _ _ _ h
  ·rcases Yh hv with ⟨j,u,rfl,rfl⟩ | ⟨y,u,rfl,rfl⟩
   ·rw [ZnF] at h;exact SeqAt.EqAt.str_int x t j u _ _ _ _ h
   ·rw [ZnN] at h;exact wpAny_eqBool_str h
 «strs»:=fun k x t v h=>by
  rcases Yh h with ⟨i,u,rfl,e⟩ | ⟨y,u,rfl,e⟩
  ·exact nomatch e
  ·injection e with e1 _
   subst e1
   cases v<;>rfl
theorem Zbz (prog:Qk)(w:Qv)(k:Zn)(v:Qb):(ZN prog w).is k v=Vm k v:=rfl
theorem ZeT (prog:Qk)(w:Qv)(i:Int)(t:Tok):(ZN prog w).is (.inl i) (.int i t)=true:=Zhw i t
theorem Zat (prog:Qk)(w:Qv)(x:Str)(t:Tok):(ZN prog w).is (.inr x) (.str x t)=true:=ZhU x t
inductive V where
 | non | bl (b:Bool) | int (i:Int) | str (x:Str) | byt (b:Array UInt8) | flt (b:UInt64) | ref (a:Addr) | ty (n:String)
 deriving DecidableEq
def RelV:V->Qb->Prop
 | .non,u=>u=QX
 | .bl b,u=>u=GM b
 | .int i,u=>∃ t,u=RN i t
 | .str x,u=>∃ t,u=Tn x t
 | .byt b,u=>∃ t,u=Value.bytes b t
 | .flt b,u=>∃ t,u=NG b t
 | .ref a,u=>u=Qo a
 | .ty n,u=>u=Ou n
abbrev Vals:List V->List Qb->Prop:=Sf RelV
theorem Vals.length {xs:List V}{us:List Qb}(r:Vals xs us):xs.length=us.length:=Jb r
theorem Vals.get:∀{xs:List V}{us:List Qb}{i:Nat}{x:V},Vals xs us->xs[i]?=some x->∃ u,us[i]?=some u/\RelV x u
 | _,_,_,_,.nil,e=>by simp at e
 | _,_,0,_,.cons r _,e=>by simp at e;subst e;exact ⟨_,rfl,r⟩
 | _,_,i+1,x,.cons _ t,e=>by
  obtain ⟨u,h1,h2⟩:=Vals.get (i:=i) (x:=x) t (by simpa using e)
  exact ⟨u,by simpa using h1,h2⟩
theorem Vals.set {x:V}{u:Qb}(r:RelV x u):∀{xs:List V}{us:List Qb}(i:Nat),Vals xs us->Vals (xs.set i x) (us.set i u)
 | _,_,_,.nil=>.nil
 | _,_,0,.cons _ t=>.cons r t
 | _,_,i+1,.cons q t=>.cons q (Vals.set r i t)
theorem Vals.append:∀{xs ys:List V}{us ws:List Qb},Vals xs us->Vals ys ws->Vals (xs++ys) (us++ws)
 | _,_,_,_,.nil,s=>s
 | _,_,_,_,.cons r t,s=>.cons r (Vals.append t s)
theorem Vals.take:∀{xs:List V}{us:List Qb}(n:Nat),Vals xs us->Vals (xs.take n) (us.take n)
 | _,_,0,_=>.nil
 | _,_,_+1,.nil=>.nil
 | _,_,n+1,.cons r t=>.cons r (Vals.take n t)
theorem Vals.drop:∀{xs:List V}{us:List Qb}(n:Nat),Vals xs us->Vals (xs.drop n) (us.drop n)
 | _,_,0,r=>r
 | _,_,_+1,.nil=>.nil
 | _,_,n+1,.cons _ t=>Vals.drop n t
def RelO:Option V->Option Qb->Prop
 | some v,some u=>RelV v u
 | none,none=>True
 | _,_=>False
def KV {κ:Type}:List (κ×V)->List (κ×Qb)->Prop:=Sf fun (p:κ×V) (q:κ×Qb)=>p.1=q.1/\RelV p.2 q.2
def kV:Zn->V
 | .inl i=>.int i
 | .inr x=>.str x
inductive HO where
 | lst (xs:List V)
 | tup (xs:List V)
 | dK (kvs:List (Zn×V)) | dT (kvs:List (List Zn×V))
 | set (S:Int->Bool) (n:Nat)
 | ins (C dx:Addr) (fs:List (Str×V))
 | own (x:Addr)
 | xd (fs:List (Str×V))
 | met (f x:Addr)
 | rng (lo hi:Int)
 | frz (o:Obj) (u:HO)
 | tbl (ps:Array Qb)
 | ext (φ:Heap->Prop)
abbrev Hp:=Addr->Option HO
def upd (H:Hp)(a:Addr)(o:HO):Hp:=fun b=>if b=a then some o else H b
theorem Zf {H:Hp}{a:Addr}{o:HO}:upd H a o a=some o:=by unfold upd;rw [if_pos rfl]
theorem Zg {H:Hp}{a b:Addr}{o:HO}(h:b≠a):upd H a o b=H b:=by unfold upd;rw [if_neg h]
theorem Zbg {H:Hp}{a b:Addr}{o u:HO}(h:H a=some o)(h':H b=some u)(d:o≠u):a≠b:=by
 intro e;subst e;rw [h] at h';exact d (QG h')
theorem Zt {H:Hp}{a b:Addr}{o:HO}(h:H a=some o)(h':H b=none):a≠b:=by
 intro e;subst e;rw [h] at h';cases h'
section
variable (P:Qk)(w:Qv)
def ObjOk (H:Hp)(h:Heap)(a:Addr):HO->Prop
 | .lst xs=>xs.length<=Qi/\∃ (its:List Qb) (n:Nat),Vals xs its/\h.get? a=some { cls:=.type "list",data:=.seq its.toArray n }
 | .tup xs=>xs.length<=Qi/\∃ its:List Qb,Vals xs its/\Rq h a its.toArray
 | .dK kvs=>kvs.length<=Qi/\(a == Jc)=false/\∃ vs,KV kvs vs/\h.DictOf (ZN P w) a vs
 | .dT kvs=>kvs.length<=Qi/\(a == Jc)=false/\∃ xs:List (List Zn×Addr×Qb),
     Sf (fun (p:List Zn×V) (q:List Zn×Addr×Qb)=>p.1=q.1/\H q.2.1=some (.tup (p.1.map kV))/\RelV p.2 q.2.2) kvs xs /\
     ∃ o es ep,h.get? a=some o/\o.ExactDict/\o.data=.dict es ep/\es.toList=xs.map (entryOfKey (Sm (ZN P w)))/\(xs.map (·.1)).Nodup
 | .set S n=>h.SetOf (intKind P w) a S n
 | .ins C dx fs=>H dx=some (.own a)/\fs.length<=1000/\dx≠a/\h.get? a=some (GE C dx) /\
     ∃ mA,h.Ns1 dx mA/\(∀ f,RelO (fs.lookup f) (mA f))/\OJ mA (fs.map (·.1))
 | .own _=>∃ o,h.get? a=some o
 | .xd fs=>∃ mA,h.Ns1 a mA/\∀ f,RelO (fs.lookup f) (mA f)
 | .rng lo hi=>∃ t u v,h.get? a=some { cls:=.type "range",data:=.fields #[.int lo t,.int hi u,.int 1 v] }
 | .frz o u=>h.get? a=some o/\ObjOk H h a u
 | .tbl ps=>h.get? a=some { cls:=.none,data:=.fields ps }
 | .met f x=>h.get? a=some (TU (.ref f) (.ref x))
 | .ext φ=>φ h/\(∃ o,h.get? a=some o)/\∀ h1 h2:Heap,φ h1->(∀ o,h1.get? a=some o->h2.get? a=some o)->φ h2
def HOk (H:Hp)(h:Heap):Prop:=∀ a o,H a=some o->ObjOk P w H h a o
end
section
variable {P:Qk}{w:Qv}{H H':Hp}{h h':Heap}{a:Addr}{o:HO}
theorem ObjOk.lt (x:ObjOk P w H h a o):a < h.objs.size:=by
 cases o with
 | lst xs=>obtain ⟨_,_,_,_,e⟩:=x;exact Qj e
 | tup xs=>obtain ⟨_,_,_,p⟩:=x;exact p.lt
 | dK kvs=>obtain ⟨_,_,_,_,o,_,_,e,_⟩:=x;exact Qj e
 | dT kvs=>obtain ⟨_,_,_,_,o,_,_,e,_⟩:=x;exact Qj e
 | set S n=>obtain ⟨o,_,_,_,e,_⟩:=x;exact Qj e
 | ins C dx fs=>obtain ⟨_,_,_,e,_⟩:=x;exact Qj e
 | own y=>obtain ⟨_,e⟩:=x;exact Qj e
 | xd fs=>obtain ⟨_,⟨_,_,_,e,_⟩,_⟩:=x;exact Qj e
 | rng lo hi=>obtain ⟨_,_,_,e⟩:=x;exact Qj e
 | frz ob u=>obtain ⟨e,_⟩:=x;exact Qj e
 | tbl ps=>exact Qj (show h.get? a=some _ from x)
 | met f y=>exact Qj (show h.get? a=some _ from x)
 | ext φ=>obtain ⟨_,⟨_,e⟩,_⟩:=x;exact Qj e
theorem Sf.mapP {α β:Type}{F G:α->β->Prop}:∀{l₁:List α}{l₂:List β},Sf F l₁ l₂->(∀ a b,F a b->G a b)->Sf G l₁ l₂
 | _,_,.nil,_=>.nil
 | _,_,.cons r t,f=>.cons (f _ _ r) (Sf.mapP t f)
theorem ObjOk.stay (x:ObjOk P w H h a o)(k:∀ b u,(b=a\/H b=some (.own a))->h.get? b=some u->h'.get? b=some u)
 (ho:∀ b,H b=some (.own a)->H' b=some (.own a)) (ht:∀ b xs,H b=some (.tup xs)->H' b=some (.tup xs)):ObjOk P w H' h' a o:=by
 induction o with
 | lst xs=>obtain ⟨z,its,n,r,e⟩:=x;exact ⟨z,its,n,r,k _ _ (.inl rfl) e⟩
 | tup xs=>obtain ⟨z,its,r,ob,e,c⟩:=x;exact ⟨z,its,r,ob,k _ _ (.inl rfl) e,c⟩
 | dK kvs=>obtain ⟨z,y,vs,r,ob,es,ep,e,c⟩:=x;exact ⟨z,y,vs,r,ob,es,ep,k _ _ (.inl rfl) e,c⟩
 | dT kvs =>
  obtain ⟨z,y,xs,r,ob,es,ep,e,c⟩:=x
  exact ⟨z,y,xs,Sf.mapP r fun p q z=>⟨z.1,ht _ _ z.2.1,z.2.2⟩,ob,es,ep,k _ _ (.inl rfl) e,c⟩
 | set S n=>obtain ⟨ob,es,ep,t,e,c⟩:=x;exact ⟨ob,es,ep,t,k _ _ (.inl rfl) e,c⟩
 | ins C dx fs =>
  obtain ⟨d,z,ne,e,mA,⟨od,es,ep,e2,c⟩,r⟩:=x
  exact ⟨ho _ d,z,ne,k _ _ (.inl rfl) e,mA,⟨od,es,ep,k _ _ (.inr d) e2,c⟩,r⟩
 | own y=>obtain ⟨ob,e⟩:=x;exact ⟨ob,k _ _ (.inl rfl) e⟩
 | xd fs=>obtain ⟨mA,⟨od,es,ep,e,c⟩,r⟩:=x;exact ⟨mA,⟨od,es,ep,k _ _ (.inl rfl) e,c⟩,r⟩
 | rng lo hi=>obtain ⟨t,u,v,e⟩:=x;exact ⟨t,u,v,k _ _ (.inl rfl) e⟩
 | frz ob u ih=>obtain ⟨e,q⟩:=x;exact ⟨k _ _ (.inl rfl) e,ih q⟩
 | tbl ps =>
  have e:h.get? a=some { cls:=.none,data:=.fields ps }:=x
  show h'.get? a=some { cls:=.none,data:=.fields ps }
  exact k a _ (.inl rfl) e
 | met f y =>
  have e:h.get? a=some (TU (.ref f) (.ref y)):=x
  show h'.get? a=some (TU (.ref f) (.ref y))
  exact k a _ (.inl rfl) e
 | ext φ=>obtain ⟨p,⟨o,e⟩,st⟩:=x;exact ⟨st _ _ p fun o q=>k _ _ (.inl rfl) q,⟨o,k _ _ (.inl rfl) e⟩,st⟩
theorem HOk.lt (x:HOk P w H h)(e:H a=some o):a < h.objs.size:=(x a o e).lt
theorem HOk.fresh (x:HOk P w H h)(e:h.objs.size<=a):H a=none:=by
 cases q:H a with
 | none=>rfl
 | some u=>exact absurd (QD (x.lt q) e) (GJ _)
theorem HOk.kept (x:HOk P w H h)(k:∀ b u,h.get? b=some u->h'.get? b=some u):HOk P w H h':=fun a o e =>
 (x a o e).stay (fun b u _ q=>k b u q) (fun _ q=>q) fun _ _ q=>q
theorem HOk.laid (x:HOk P w H h)(k:∀ b u,h.get? b=some u->h'.get? b=some u)(hp:h.objs.size<=a)(new:ObjOk P w (upd H a o) h' a o):HOk P w (upd H a o) h':=fun b u e=>by
 have hn:=x.fresh hp
 by_cases hb:b=a
 ·subst hb;rw [Zf] at e;cases e;exact new
 ·rw [Zg hb] at e
  exact (x b u e).stay (fun c v _ q=>k c v q) (fun c q=>by rw [Zg (Zt q hn)];exact q) fun c xs q=>by rw [Zg (Zt q hn)];exact q
end
def Rd (H:Hp)(a:Addr)(u:HO):Prop:=H a=some u\/∃ o,H a=some (.frz o u)
theorem Rd.ok {P:Qk}{w:Qv}{H:Hp}{h:Heap}{a:Addr}{u:HO}(r:Rd H a u)(x:HOk P w H h):ObjOk P w H h a u:=by
 rcases r with r | ⟨o,r⟩
 ·exact x a u r
 ·obtain ⟨_,q⟩:=x a _ r
  exact q
def Mut:Option HO->Prop
 | some (.lst _)=>True
 | some (.dK _)=>True
 | some (.dT _)=>True
 | some (.set _ _)=>True
 | some (.ins _ _ _)=>True
 | some (.ext _)=>True
 | _=>False
section
variable {P:Qk}{w:Qv}{H:Hp}{h h':Heap}{x e:Addr}{o':HO}
theorem HOk.write (ok:HOk P w H h)(mu:Mut (H x))(he:e=x\/H e=some (.own x))(k:∀ b u,b≠e->h.get? b=some u->h'.get? b=some u)(heo:∃ u,h'.get? e=some u)
 (new:ObjOk P w (upd H x o') h' x o'):HOk P w (upd H x o') h':=fun b u q=>by
 have nown:∀ c y,H c=some (.own y)->c≠x:=fun c y r z=>by subst z;rw [r] at mu;exact mu
 have ntup:∀ c xs,H c=some (.tup xs)->c≠x:=fun c xs r z=>by subst z;rw [r] at mu;exact mu
 by_cases hb:b=x
 ·subst hb;rw [Zf] at q;cases q;exact new
 ·rw [Zg hb] at q
  by_cases hbe:b=e
  ·have q':H b=some (.own x):=by
    rcases he with z | z
    ·exact absurd (hbe.trans z) hb
    ·rw [hbe];exact z
   rw [q] at q';cases q'
   obtain ⟨v,hv⟩:=heo
   exact ⟨v,by rw [hbe];exact hv⟩
  ·refine (ok b u q).stay (fun c v hc r=>k c v ?_ r) (fun c r=>by rw [Zg (nown c b r)];exact r) fun c xs r=>by rw [Zg (ntup c xs r)];exact r
   rcases hc with rfl | hc
   ·exact hbe
   ·rintro rfl
    rcases he with z | z
    ·exact nown c b hc z
    ·rw [hc] at z;cases z;exact hb rfl
end
structure Un (fs ex:List Addr)(H H':Hp)(h h':Heap):Prop where
 keep:∀ b o,h.get? b=some o->H b=none->b ∉ fs->b ∉ ex->h'.get? b=some o
 slot:∀ b o,h.get? b=some o->H b=none->b∈fs->b ∉ ex->∃ sl,h'.get? b=some { o with slots:=sl }
 free:∀ b o,h.get? b=some o->H b=none->b ∉ ex->H' b=none
 there:∀ b o,h.get? b=some o->b ∉ ex->∃ o',h'.get? b=some o'
 tups:∀ b xs,H b=some (.tup xs)->H' b=some (.tup xs)
 frzs:∀ b o u,H b=some (.frz o u)->H' b=some (.frz o u)
 tbls:∀ b ps,H b=some (.tbl ps)->∃ more,H' b=some (.tbl (ps++more))
section
variable {fs fs' ex ex':List Addr}{H H1 H2:Hp}{h h1 h2 h':Heap}{a x e:Addr}{o:HO}
theorem Un.any (u:Un fs ex H H1 h h1){b:Addr}{ob:Obj}(q:h.get? b=some ob)(n:H b=none)(hx:b ∉ ex):∃ sl,h1.get? b=some { ob with slots:=sl }:=by
 by_cases hb:b∈fs
 ·exact u.slot b ob q n hb hx
 ·exact ⟨ob.slots,u.keep b ob q n hb hx⟩
theorem Un.kept (k:∀ b u,h.get? b=some u->h'.get? b=some u):Un fs ex H H h h' :=
 ⟨fun b ob q _ _ _=>k b ob q,fun b ob q _ _ _=>⟨ob.slots,k b ob q⟩,fun _ _ _ n _=>n,fun b ob q _=>⟨ob,k b ob q⟩,fun _ _ q=>q,fun _ _ _ q=>q,fun _ ps q=>⟨#[],by rw [q];simp⟩⟩
theorem Un.refl:Un fs ex H H h h:=Un.kept fun _ _ q=>q
theorem Un.laid (k:∀ b u,h.get? b=some u->h'.get? b=some u)(hp:h.objs.size<=a)(hn:H a=none):Un fs ex H (upd H a o) h h' where
 keep:=fun b u q _ _ _=>k b u q
 slot:=fun b u q _ _ _=>⟨u.slots,k b u q⟩
 free:=fun b u q n _=>by rw [Zg (Qw (QD (Qj q) hp))];exact n
 there:=fun b u q _=>⟨u,k b u q⟩
 tups:=fun b xs q=>by rw [Zg (Zt q hn)];exact q
 frzs:=fun b u xs q=>by rw [Zg (Zt q hn)];exact q
 tbls:=fun b ps q=>⟨#[],by rw [Zg (Zt q hn),q];simp⟩
theorem Un.write (mu:Mut (H x))(he:e=x\/H e=some (.own x))(k:∀ b u,b≠e->h.get? b=some u->h'.get? b=some u)(heo:∃ u,h'.get? e=some u):Un fs ex H (upd H x o) h h':=by
 have hx:∀ b,H b=none->b≠x:=fun b n z=>by subst z;rw [n] at mu;exact mu
 have hb:∀ b,H b=none->b≠e:=fun b n z=>by
  subst z
  rcases he with r | r
  ·exact hx b n r
  ·rw [n] at r;cases r
 have hm:∀ b u,H b=some u->¬ Mut (some u)->b≠x:=fun b u q nm z=>by subst z;rw [q] at mu;exact nm mu
 refine ⟨fun b u q n _ _=>k b u (hb b n) q,fun b u q n _ _=>⟨u.slots,k b u (hb b n) q⟩,fun b u q n _=>by rw [Zg (hx b n)];exact n,fun b u q _=>?_,
  fun b xs q=>by rw [Zg (hm b _ q fun z=>z)];exact q,fun b u xs q=>by rw [Zg (hm b _ q fun z=>z)];exact q,fun b ps q=>⟨#[],by rw [Zg (hm b _ q fun z=>z),q];simp⟩⟩
 by_cases hbe:b=e
 ·subst hbe;exact heo
 ·exact ⟨u,k b u hbe q⟩
end
def trk (h:Heap)(H:Hp):List Addr:=(Gd h.objs.size).filter fun a=>(H a).isSome
def UM (h:Heap)(H:Hp):Heap:=PySem.W.hideAll h (trk h H)
theorem ZhJ (h:Heap)(H:Hp):(UM h H).objs.size=h.objs.size:=PySem.W.hideAll_size _ _
theorem ZiL {h:Heap}{H:Hp}{b:Addr}{o:Obj}(e:h.get? b=some o)(n:H b=none):(UM h H).get? b=some o :=
 PySem.W.hideAll_get _ e fun hm=>by
  have q:(H b).isSome=true:=(mem_filter.mp hm).2
  rw [n] at q;simp at q
theorem Zlj {h:Heap}{H:Hp}{b:Addr}{o:Obj}(e:(UM h H).get? b=some o):h.get? b=some o/\H b=none:=by
 have e':h.get? b=some o:=PySem.W.of_hideAll (trk h H) e
 refine ⟨e',?_⟩
 cases q:H b with
 | none=>rfl
 | some x =>
  have hm:b∈trk h H:=mem_filter.mpr ⟨mem_range.mpr (Qj e'),by simp [q]⟩
  have z:(UM h H).get? b=none:=PySem.W.hideAll_none (trk h H) hm
  rw [z] at e;cases e
structure Mod (K:Qa)(mg:Str->Option Qb)(base:Heap):Prop where
 kin:K.In base
 glob:base.Ns Ql mg
 blt:∃ mb,base.Ns Tr mb/\∀ x:Str,x≠"__name__"->mb x=Pc x
 nolimit:base.NoLimit
structure Cx where
 prog:Qk
 w:Qv
 K:Qa
 mg:Str->Option Qb
 base:Heap
 A:QF
 N:List Str
 s₀:Qe
 H₀:Hp
 env:Env
 outer:List Env
 stack:List Env
 ex:List Addr
 fn:Str->Bool
 calm:Bool
 pn:List (Addr×Obj)
 xe:Qb->Qe->Prop
def YM (l:List Env):List Addr:=l.filterMap (·.frame)
abbrev Cx.fs (X:Cx):List Addr:=YM X.outer
def Vis (sc:Scope)(x:Str):Prop:=sc.names.lookup x=some .local\/sc.names.lookup x=some .cell\/sc.names.lookup x=some .free
def Loc (sc:Scope)(x:Str):Prop:=sc.names.lookup x=some .local\/sc.names.lookup x=some .cell
def Look (env:Env)(h:Heap)(m:Str->Option Qb)(x:Str)(u:Qb):Prop :=
 (env.kindOf x=some .local/\m x=some u)\/((env.kindOf x=some .cell\/env.kindOf x=some .free)/\∃ c,env.cells.lookup x=some c/\h.IsCell c (some u))
structure Cx.Ok (X:Cx):Prop where
 mod:Mod X.K X.mg X.base
 kind:X.env.scope.kind=.function
 glob:X.env.globals=Ql
 blt:X.env.builtins=Tr
 above:X.s₀.heap.objs.size<=X.env.locals
 inj:∀ x y c,X.env.cells.lookup x=some c->X.env.cells.lookup y=some c->x=y
 has:∀ x,(X.env.kindOf x=some .cell\/X.env.kindOf x=some .free)->∃ c,X.env.cells.lookup x=some c
 cab:∀ x c,X.fn x=true->X.env.cells.lookup x=some c->X.s₀.heap.objs.size<=c
 hd:X.calm=true->X.A.handled=none
 frames:X.A.frames=some X.stack
 stk:X.stack=X.outer\/(X.stack=X.env::X.outer/\X.env.frame=some X.env.locals)
 exf:∀ b∈X.ex,b≠X.env.locals/\∀ x c,X.env.cells.lookup x=some c->c≠b
 bs:∀ b o,X.base.get? b=some o->X.s₀.heap.get? b=some o/\X.H₀ b=none
 bsz:X.base.objs.size<=X.s₀.heap.objs.size
 noex:∀ b o,X.base.get? b=some o->b ∉ X.ex
 exfs:∀ b∈X.ex,b ∉ X.fs
 funs:X.s₀.heap.FunFrames X.base X.outer
 frf:∀ b∈X.fs,X.H₀ b=none
structure Inv (X:Cx)(pins:List (Addr×Obj))(σ:List (Option V))(H:Hp)(s:Qe):Prop where
 ok:X.Ok
 os:s.os=X.s₀.os
 bare:Tj s.gens
 base:Un X.fs X.ex X.H₀ H X.s₀.heap s.heap
 loc:∃ m,s.heap.Ns X.env.locals m/\∀ (i:Nat) (x:Str) (v:V),X.N[i]?=some x->σ[i]?=some (some v)->Vis X.env.scope x->∃ u,RelV v u/\Look X.env s.heap m x u
 cell:∀ x c,X.env.cells.lookup x=some c->∃ v,s.heap.IsCell c v
 free:H X.env.locals=none
 freeC:∀ x c,X.env.cells.lookup x=some c->H c=none
 pin:∀ p∈X.pn++pins,s.heap.get? p.1=some p.2/\H p.1=none/\p.1≠X.env.locals/\p.1 ∉ X.fs/\∀ v,p.2.data≠.cell v
 hok:HOk X.prog X.w H s.heap
 len:σ.length=X.N.length
section
variable {X:Cx}{pins:List (Addr×Obj)}{σ:List (Option V)}{H H':Hp}{s:Qe}{h':Heap}
theorem Cx.Ok.nofr (ok:X.Ok){b:Addr}{o:Obj}(e:X.base.get? b=some o):b ∉ X.fs:=fun hb=>by
 have:=(ok.funs.mem hb).1
 rw [e] at this;cases this
theorem Inv.bs (I:Inv X pins σ H s):∀ b o,X.base.get? b=some o->s.heap.get? b=some o/\H b=none:=fun b o e =>
 ⟨I.base.keep b o (I.ok.bs b o e).1 (I.ok.bs b o e).2 (I.ok.nofr e) (I.ok.noex b o e),I.base.free b o (I.ok.bs b o e).1 (I.ok.bs b o e).2 (I.ok.noex b o e)⟩
theorem Inv.bk (I:Inv X pins σ H s):∀ b o,X.base.get? b=some o->s.heap.get? b=some o:=fun b o e=>(I.bs b o e).1
theorem Inv.mod (I:Inv X pins σ H s):Mod X.K X.mg X.base:=I.ok.mod
theorem Inv.kIn (I:Inv X pins σ H s):X.K.In s.heap:=I.ok.mod.kin.keeps I.bk
theorem Inv.nolimit (I:Inv X pins σ H s):s.heap.NoLimit:=I.ok.mod.nolimit.keeps I.bk
theorem Inv.lt (I:Inv X pins σ H s):X.env.locals < s.heap.objs.size:=let ⟨_,hn,_⟩:=I.loc;hn.lt
theorem Inv.sz (I:Inv X pins σ H s):X.s₀.heap.objs.size<=s.heap.objs.size:=Qn I.ok.above (GH I.lt)
theorem Inv.nofs (I:Inv X pins σ H s){a:Addr}(h:s.heap.objs.size<=a):a ∉ X.fs:=fun hb=>by
 obtain ⟨_,o,ho,_⟩:=I.ok.funs.mem hb
 exact absurd (QD (Qj ho) (Qn I.sz h)) (GJ _)
theorem Inv.cne (I:Inv X pins σ H s):∀ x c,X.env.cells.lookup x=some c->c≠X.env.locals:=fun x c e z=>by
 obtain ⟨v,o,ho,hd⟩:=I.cell x c e
 obtain ⟨m,⟨o',es,ep,ho',hd',_⟩,_⟩:=I.loc
 rw [z,ho'] at ho;cases ho;rw [hd'] at hd;cases hd
theorem Inv.funs (I:Inv X pins σ H s):s.heap.FunFrames X.base X.outer:=by
 have all:∀ (l:List Env),(∀ b∈YM l,b∈X.fs)->X.s₀.heap.FunFrames X.base l->s.heap.FunFrames X.base l:=by
  intro l
  induction l with
  | nil=>intro _ _;trivial
  | cons env r ih =>
   intro hs hl
   obtain ⟨hk,⟨L,o,hf,hn,ho,hd⟩,hr⟩:=hl
   have hL:L∈X.fs:=hs L (by unfold YM;rw [JO,hf];exact mem_cons_self)
   obtain ⟨sl,e⟩:=I.base.slot L o ho (I.ok.frf L hL) hL fun z=>I.ok.exfs L z hL
   exact ⟨hk,⟨L,_,hf,hn,e,hd⟩,ih (fun b hb=>hs b (by unfold YM;rw [JO,hf];exact mem_cons_of_mem _ hb)) hr⟩
 exact all X.outer (fun _ hb=>hb) I.ok.funs
theorem Inv.stack (I:Inv X pins σ H s):s.heap.FunFrames X.base X.stack:=by
 rcases I.ok.stk with e | ⟨e,hf⟩
 ·rw [e];exact I.funs
 ·rw [e]
  obtain ⟨m,hn,_⟩:=I.loc
  refine .cons (by rw [I.ok.kind];decide) hf hn ?_ I.funs
  exact PM (Qn I.ok.bsz I.ok.above)
theorem Inv.stkSub (I:Inv X pins σ H s):∀ b∈YM X.stack,b∈X.env.locals::X.fs:=fun b hb=>by
 rcases I.ok.stk with e | ⟨e,hf⟩
 ·rw [e] at hb;exact mem_cons_of_mem _ hb
 ·rw [e] at hb
  unfold YM at hb
  rw [JO,hf] at hb
  exact hb
theorem Inv.stkFree (I:Inv X pins σ H s):∀ b∈YM X.stack,H b=none:=fun b hb=>by
 rcases mem_cons.mp (I.stkSub b hb) with e | hb
 ·rw [e];exact I.free
 ·obtain ⟨_,o,ho,_⟩:=I.ok.funs.mem hb
  exact I.base.free b o ho (I.ok.frf b hb) fun z=>I.ok.exfs b z hb
theorem Inv.step {g':Array OL}{t':Nat}{d':Drawn}{ch:List Addr}(I:Inv X pins σ H s)
 (hch:∀ b∈ch,(b∈X.ex\/X.s₀.heap.objs.size<=b)/\b≠X.env.locals/\(∀ x c,X.env.cells.lookup x=some c->c≠b)/\∀ p∈X.pn++pins,p.1≠b)
 (keep:∀ b o,b≠X.env.locals->b ∉ X.fs->b ∉ ch->s.heap.get? b=some o->H b=none->h'.get? b=some o)
 (slot:∀ b o,b≠X.env.locals->b∈X.fs->b ∉ ch->s.heap.get? b=some o->H b=none->∃ sl,h'.get? b=some { o with slots:=sl }) (free:∀ b o,b ∉ ch->s.heap.get? b=some o->H b=none->H' b=none)
 (there:∀ b o,b ∉ ch->s.heap.get? b=some o->∃ o',h'.get? b=some o')
 (tups:∀ b xs,H b=some (.tup xs)->H' b=some (.tup xs)) (frzs:∀ b o u,H b=some (.frz o u)->H' b=some (.frz o u)) (tbls:∀ b ps,H b=some (.tbl ps)->∃ more,H' b=some (.tbl (ps++more)))
 (ns:∀ m,s.heap.Ns X.env.locals m->h'.Ns X.env.locals m) (hok:HOk X.prog X.w H' h') (hg:Tj g') :
 Inv X pins σ H' { s with heap:=h',gens:=g',drawn:=d',toks:=t' }:=by
 have neL:∀ b o,X.s₀.heap.get? b=some o->b≠X.env.locals:=fun b o e=>Qw (QD (Qj e) I.ok.above)
 have neC:∀ b o,X.s₀.heap.get? b=some o->b ∉ X.ex->b ∉ ch:=fun b o e hx hb=>by
  rcases (hch b hb).1 with z | z
  ·exact hx z
  ·exact absurd (QD (Qj e) z) (GJ _)
 have cellK:∀ x c,X.env.cells.lookup x=some c->∀ v,s.heap.IsCell c v->h'.IsCell c v:=fun x c e v ⟨o,ho,hd⟩=>by
  have nch:c ∉ ch:=fun z=>(hch c z).2.2.1 x c e rfl
  by_cases hc:c∈X.fs
  ·obtain ⟨sl,q⟩:=slot c o (I.cne x c e) hc nch ho (I.freeC x c e)
   exact ⟨_,q,hd⟩
  ·exact ⟨o,keep c o (I.cne x c e) hc nch ho (I.freeC x c e),hd⟩
 refine ⟨I.ok,I.os,hg,⟨fun b o e n hb hx=>?_,fun b o e n hb hx=>?_,fun b o e n hx=>?_,fun b o e hx=>?_,fun b xs e=>tups b xs (I.base.tups b xs e),fun b o xs e=>frzs b o xs (I.base.frzs b o xs e),fun b ps e=>?_⟩,?_,fun x c e=>?_,?_,fun x c e=>?_,fun p hp=>?_,hok,I.len⟩
 ·exact keep b o (neL b o e) hb (neC b o e hx) (I.base.keep b o e n hb hx) (I.base.free b o e n hx)
 ·obtain ⟨sl,e1⟩:=I.base.slot b o e n hb hx
  obtain ⟨sl',e2⟩:=slot b _ (neL b o e) hb (neC b o e hx) e1 (I.base.free b o e n hx)
  exact ⟨sl',e2⟩
 ·obtain ⟨o',e1⟩:=I.base.there b o e hx
  exact free b o' (neC b o e hx) e1 (I.base.free b o e n hx)
 ·obtain ⟨o',e1⟩:=I.base.there b o e hx
  exact there b o' (neC b o e hx) e1
 ·obtain ⟨m1,e1⟩:=I.base.tbls b ps e
  obtain ⟨m2,e2⟩:=tbls b _ e1
  exact ⟨m1++m2,by rw [e2,Array.append_assoc]⟩
 ·obtain ⟨m,hn,hl⟩:=I.loc
  refine ⟨m,ns m hn,fun i x v e1 e2 e3=>?_⟩
  obtain ⟨u,r,l⟩:=hl i x v e1 e2 e3
  refine ⟨u,r,?_⟩
  rcases l with l | ⟨k,c,e,z⟩
  ·exact .inl l
  ·exact .inr ⟨k,c,e,cellK x c e _ z⟩
 ·obtain ⟨v,z⟩:=I.cell x c e
  exact ⟨v,cellK x c e v z⟩
 ·obtain ⟨m,⟨o,_,_,ho,_⟩,_⟩:=I.loc
  exact free _ o (fun z=>(hch _ z).2.1 rfl) ho I.free
 ·obtain ⟨v,o,ho,hd⟩:=I.cell x c e
  exact free c o (fun z=>(hch c z).2.2.1 x c e rfl) ho (I.freeC x c e)
 ·obtain ⟨e,n,ne,nf,d⟩:=I.pin p hp
  have nch:p.1 ∉ ch:=fun z=>(hch p.1 z).2.2.2 p hp rfl
  exact ⟨keep p.1 p.2 ne nf nch e n,free p.1 p.2 nch e n,ne,nf,d⟩
theorem Inv.un {t':Nat}(I:Inv X pins σ H s)(u:Un X.fs [] H H' s.heap h')(hok:HOk X.prog X.w H' h'):Inv X pins σ H' { s with heap:=h',toks:=t' }:=by
 obtain ⟨m,⟨o,es,ep,ho,r⟩,_⟩:=id I.loc
 obtain ⟨sl,hL⟩:=u.any ho I.free (by simp)
 exact I.step (g':=s.gens) (d':=s.drawn) (ch:=[]) (fun _ z=>nomatch z) (fun b o _ hb _ e n=>u.keep b o e n hb (by simp)) (fun b o _ hb _ e n=>u.slot b o e n hb (by simp)) (fun b o _ e n=>u.free b o e n (by simp)) (fun b o _ e=>u.there b o e (by simp)) u.tups u.frzs u.tbls (fun m' hm=>by
  obtain ⟨o',es',ep',ho',r'⟩:=hm
  rw [ho] at ho';cases ho'
  exact ⟨_,es',ep',hL,r'⟩) hok I.bare
theorem Inv.call {g':Array OL}{t':Nat}{d':Drawn}{ch:List Addr}(I:Inv X pins σ H s)(u:Un (YM X.stack) ch H H' s.heap h')(hok:HOk X.prog X.w H' h')(hg:Tj g')
 (hch:∀ b∈ch,(b∈X.ex\/X.s₀.heap.objs.size<=b)/\b≠X.env.locals/\(∀ x c,X.env.cells.lookup x=some c->c≠b)/\∀ p∈X.pn++pins,p.1≠b) :
 Inv X pins σ H' { s with heap:=h',gens:=g',drawn:=d',toks:=t' }:=by
 obtain ⟨m,⟨o,es,ep,ho,r⟩,_⟩:=id I.loc
 obtain ⟨sl,hL⟩:=u.any ho I.free fun z=>(hch _ z).2.1 rfl
 exact I.step (ch:=ch) hch (fun b o hL hb hc e n=>u.keep b o e n (fun z=>(mem_cons.mp (I.stkSub b z)).elim hL hb) hc) (fun b o _ _ hc e n=>u.any e n hc) (fun b o hc e n=>u.free b o e n hc) (fun b o hc e=>u.there b o e hc) u.tups u.frzs u.tbls (fun m' hm=>by
  obtain ⟨o',es',ep',ho',r'⟩:=hm
  rw [ho] at ho';cases ho'
  exact ⟨_,es',ep',hL,r'⟩) hok hg
theorem Inv.turned {t':Nat}{it:Addr}(I:Inv X pins σ H s)(k:∀ b o,b≠it->s.heap.get? b=some o->h'.get? b=some o)(hn:H it=none)(hL:it≠X.env.locals)
 (h1:it∈X.ex\/X.s₀.heap.objs.size<=it) (h2:∀ x c,X.env.cells.lookup x=some c->c≠it) (h3:∀ p∈X.pn++pins,p.1≠it):Inv X pins σ H { s with heap:=h',toks:=t' }:=by
 have nit:∀ b u,H b=some u->b≠it:=fun b u e z=>by rw [z,hn] at e;cases e
 refine I.step (g':=s.gens) (d':=s.drawn) (ch:=[it]) (fun b hb=>?_) (fun b o _ _ hc e _=>k b o (fun z=>hc (by simp [z])) e) (fun b o _ _ hc e _=>⟨o.slots,k b o (fun z=>hc (by simp [z])) e⟩) (fun _ _ _ _ n=>n)
  (fun b o hc e=>⟨o,k b o (fun z=>hc (by simp [z])) e⟩) (fun _ _ e=>e) (fun _ _ _ e=>e) (fun b ps e=>⟨#[],by rw [e];simp⟩) (fun m hm=>?_) (fun b u e=>?_) I.bare
 ·have e:b=it:=by simpa using hb
  subst e
  exact ⟨h1,hL,h2,h3⟩
 ·obtain ⟨o,es,ep,ho,r⟩:=hm
  exact ⟨o,es,ep,k _ o (Gv hL) ho,r⟩
 ·refine (I.hok b u e).stay (fun c v hc q=>k c v ?_ q) (fun _ q=>q) fun _ _ q=>q
  rcases hc with z | z
  ·rw [z];exact nit b u e
  ·exact nit c _ z
theorem Inv.tok (I:Inv X pins σ H s)(t:Nat):Inv X pins σ H { s with toks:=t }:=I.un (h':=s.heap) (t':=t) Un.refl I.hok
theorem Inv.kept {t':Nat}(I:Inv X pins σ H s)(k:∀ b u,s.heap.get? b=some u->h'.get? b=some u):Inv X pins σ H { s with heap:=h',toks:=t' }:=I.un (Un.kept k) (I.hok.kept k)
theorem Inv.laid {a:Addr}{o:HO}{t':Nat}(I:Inv X pins σ H s)(k:∀ b u,s.heap.get? b=some u->h'.get? b=some u)(hp:s.heap.objs.size<=a)(new:ObjOk X.prog X.w (upd H a o) h' a o) :
 Inv X pins σ (upd H a o) { s with heap:=h',toks:=t' }:=I.un (Un.laid k hp (I.hok.fresh hp)) (I.hok.laid k hp new)
theorem Inv.write {x e:Addr}{o:HO}{t':Nat}(I:Inv X pins σ H s)(mu:Mut (H x))(he:e=x\/H e=some (.own x))(k:∀ b u,b≠e->s.heap.get? b=some u->h'.get? b=some u)(heo:∃ u,h'.get? e=some u)
 (new:ObjOk X.prog X.w (upd H x o) h' x o):Inv X pins σ (upd H x o) { s with heap:=h',toks:=t' }:=I.un (Un.write mu he k heo) (I.hok.write mu he k heo new)
theorem Inv.pins_of {pins':List (Addr×Obj)}(I:Inv X pins σ H s)(h:∀ p∈pins',s.heap.get? p.1=some p.2/\H p.1=none/\p.1≠X.env.locals/\p.1 ∉ X.fs/\∀ v,p.2.data≠.cell v):Inv X pins' σ H s :=
 ⟨I.ok,I.os,I.bare,I.base,I.loc,I.cell,I.free,I.freeC,fun p hp=>(mem_append.mp hp).elim (fun z=>I.pin p (GV _ z)) (h p),I.hok,I.len⟩
theorem ZaJ {N:List Str}(hN:N.Nodup){i j:Nat}{x:Str}(a:N[i]?=some x)(b:N[j]?=some x):i=j:=by
 obtain ⟨h1,e1⟩:=Qf.mp a
 obtain ⟨h2,e2⟩:=Qf.mp b
 exact (List.getElem_inj hN).mp (e1.trans e2.symm)
theorem ZcZ {M:Oh}{A:QF}{E:Qb->Qe->Prop}{i:Nat}{x:Str}{v:V}{u:Qb}{Q:Unit->Qe->Prop}(I:Inv X pins σ H s)(hN:X.N.Nodup)(hi:X.N[i]?=some x)(hx:Loc X.env.scope x)(r:RelV v u)
 (h:∀ s',Inv X pins (σ.set i (some v)) H s'->(∃ a,SK a s.heap s'.heap/\(a=X.env.locals\/X.env.cells.lookup x=some a))->Q () s') (hf:X.fn x=true\/X.env.scope.names.lookup x=some .local:=by first | exact .inl rfl | exact .inr rfl | assumption):Qq M A (storeName X.env x u) Q E s:=by
 obtain ⟨m,hn,hl⟩:=id I.loc
 have hcls:(X.env.scope.kind == .class || (X.env.scope.kind == .module&&X.env.locals != X.env.globals))=false:=by rw [I.ok.kind];rfl
 have hiσ:i < σ.length:=by rw [I.len];exact (Qf.mp hi).1
 have cne:=I.cne
 have tracked:∀ {a:Addr} {h':Heap},(∃ o,s.heap.get? a=some o/\H a=none)->SK a s.heap h'->HOk X.prog X.w H h':=fun {a h'} ha hs b ob e=>by
  obtain ⟨_,_,hfree⟩:=ha
  refine (I.hok b ob e).stay (fun c w' hc q=>(hs.2 c ?_).trans q) (fun _ q=>q) fun _ _ q=>q
  rintro rfl
  rcases hc with rfl | hc
  ·rw [hfree] at e;cases e
  ·rw [hfree] at hc;cases hc
 rcases hx with hk | hk
 ·refine wpAny_storeName_local hk hn (fun h' hn' hs=>?_) hcls
  obtain ⟨oL,_,_,hoL,_⟩:=id hn
  refine h _ ⟨I.ok,I.os,I.bare,⟨fun b o e n hb hx=>?_,fun b o e n hb hx=>?_,I.base.free,fun b o e hx=>?_,I.base.tups,I.base.frzs,I.base.tbls⟩,⟨_,hn',fun j y v' e1 e2 e3=>?_⟩,fun y c e=>?_,I.free,I.freeC,fun p hp=>?_,tracked ⟨oL,hoL,I.free⟩ hs,by simpa using I.len⟩ ⟨_,hs,.inl rfl⟩
  ·exact (hs.2 b (Qw (QD (Qj e) I.ok.above))).trans (I.base.keep b o e n hb hx)
  ·obtain ⟨sl,e1⟩:=I.base.slot b o e n hb hx
   exact ⟨sl,(hs.2 b (Qw (QD (Qj e) I.ok.above))).trans e1⟩
  ·obtain ⟨o',e1⟩:=I.base.there b o e hx
   exact ⟨o',(hs.2 b (Qw (QD (Qj e) I.ok.above))).trans e1⟩
  ·by_cases hj:j=i
   ·subst hj
    rw [hi] at e1;cases e1
    rw [SL hiσ] at e2
    cases e2
    exact ⟨u,r,.inl ⟨hk,by simp⟩⟩
   ·rw [PN (Gv hj)] at e2
    obtain ⟨u',r',q⟩:=hl j y v' e1 e2 e3
    refine ⟨u',r',?_⟩
    rcases q with ⟨k,e⟩ | ⟨k,c,e,z⟩
    ·refine .inl ⟨k,?_⟩
     have:y≠x:=fun e=>hj (ZaJ hN e1 (e ▸ hi))
     simp [this,e]
    ·exact .inr ⟨k,c,e,z.sameBut hs (cne y c e)⟩
  ·obtain ⟨w',z⟩:=I.cell y c e
   exact ⟨w',z.sameBut hs (cne y c e)⟩
  ·obtain ⟨e,n,ne,nf,d⟩:=I.pin p hp
   exact ⟨(hs.2 p.1 ne).trans e,n,ne,nf,d⟩
 ·have hfn:X.fn x=true:=by
   rcases hf with z | z
   ·exact z
   ·rw [z] at hk;cases hk
  obtain ⟨c,hc⟩:=I.ok.has x (.inl hk)
  obtain ⟨w',z⟩:=I.cell x c hc
  refine wpAny_storeName_cell I.ok.kind hk hc z (fun h' hc' hs=>?_)
  obtain ⟨oc,hoc,hocd⟩:=id z
  refine h { s with heap:=h' } ⟨I.ok,I.os,I.bare,⟨fun b o e n hb hx=>?_,fun b o e n hb hx=>?_,I.base.free,fun b o e hx=>?_,I.base.tups,I.base.frzs,I.base.tbls⟩,⟨m,hn.sameBut hs (Gv (cne x c hc)),fun j y v' e1 e2 e3=>?_⟩,fun y c' e=>?_,I.free,I.freeC,fun p hp=>?_,tracked ⟨oc,hoc,I.freeC x c hc⟩ hs,by simpa using I.len⟩ ⟨c,hs,.inr hc⟩
  ·exact (hs.2 b (Qw (QD (Qj e) (I.ok.cab x c hfn hc)))).trans (I.base.keep b o e n hb hx)
  ·obtain ⟨sl,e1⟩:=I.base.slot b o e n hb hx
   exact ⟨sl,(hs.2 b (Qw (QD (Qj e) (I.ok.cab x c hfn hc)))).trans e1⟩
  ·obtain ⟨o',e1⟩:=I.base.there b o e hx
   exact ⟨o',(hs.2 b (Qw (QD (Qj e) (I.ok.cab x c hfn hc)))).trans e1⟩
  ·by_cases hj:j=i
   ·subst hj
    rw [hi] at e1;cases e1
    rw [SL hiσ] at e2
    cases e2
    exact ⟨u,r,.inr ⟨.inl hk,c,hc,hc'⟩⟩
   ·rw [PN (Gv hj)] at e2
    obtain ⟨u',r',q⟩:=hl j y v' e1 e2 e3
    refine ⟨u',r',?_⟩
    rcases q with q | ⟨k,c',e,z'⟩
    ·exact .inl q
    ·refine .inr ⟨k,c',e,z'.sameBut hs ?_⟩
     rintro rfl
     exact hj (ZaJ hN e1 (I.ok.inj _ _ _ e hc ▸ hi))
  ·by_cases hcc:c'=c
   ·subst hcc;exact ⟨_,hc'⟩
   ·obtain ⟨w2,z2⟩:=I.cell y c' e
    exact ⟨w2,z2.sameBut hs hcc⟩
  ·obtain ⟨e,n,ne,nf,d⟩:=I.pin p hp
   refine ⟨(hs.2 p.1 ?_).trans e,n,ne,nf,d⟩
   intro q
   rw [q,hoc] at e
   have q':oc=p.2:=QG e
   exact d w' (by rw [<- q'];exact hocd)
theorem Xj {M:Oh}{A:QF}{E:Qb->Qe->Prop}{i:Nat}{x:Str}{v:V}{u:Qb}{Q:Unit->Qe->Prop}(I:Inv X pins σ H s)(hN:X.N.Nodup)(hi:X.N[i]?=some x)(hx:Loc X.env.scope x)(r:RelV v u)
 (h:∀ s',Inv X pins (σ.set i (some v)) H s'->Q () s') (hf:X.fn x=true\/X.env.scope.names.lookup x=some .local:=by first | exact .inl rfl | exact .inr rfl | assumption):Qq M A (storeName X.env x u) Q E s :=
 ZcZ I hN hi hx r (fun s' I' _=>h s' I') hf
theorem Inv.call' {s':Qe}{ch:List Addr}(I:Inv X pins σ H s)(ho:s'.os=s.os)(u:Un (YM X.stack) ch H H' s.heap s'.heap)(hok:HOk X.prog X.w H' s'.heap)(hg:Tj s'.gens)
 (hch:∀ b∈ch,(b∈X.ex\/X.s₀.heap.objs.size<=b)/\b≠X.env.locals/\(∀ x c,X.env.cells.lookup x=some c->c≠b)/\∀ p∈X.pn++pins,p.1≠b):Inv X pins σ H' s':=by
 obtain ⟨h',g',d',t',o'⟩:=s'
 have e:o'=s.os:=ho
 subst e
 exact I.call (g':=g') (t':=t') (d':=d') u hok hg hch
end
abbrev XK:=Qb->Option Addr->Hp->Prop
abbrev St:=List (Option V)
abbrev VK:=V->Hp->Prop
abbrev TE:=St->Hp->VK->Prop
abbrev TT:=St->Hp->(Bool->Hp->Prop)->Prop
abbrev TA:=St->Hp->(List V->Hp->Prop)->Prop
structure YA where
 nx:St->Hp->Prop
 rt:VK
 bk:St->Hp->Prop:=fun _ _=>False
 ct:St->Hp->Prop:=fun _ _=>False
abbrev TS:=YA->St->Hp->Prop
def EP (X:Cx)(pins:List (Addr×Obj))(σ:St)(Q:VK)(u:Qb)(s':Qe):Prop:=∃ v H',Inv X pins σ H' s'/\RelV v u/\Q v H'
def TP (X:Cx)(pins:List (Addr×Obj))(σ:St)(Q:Bool->Hp->Prop)(b:Bool)(s':Qe):Prop:=∃ H',Inv X pins σ H' s'/\Q b H'
def AP (X:Cx)(pins:List (Addr×Obj))(σ:St)(Q:List V->Hp->Prop)(us:List Qb)(s':Qe):Prop:=∃ vs H',Inv X pins σ H' s'/\Vals vs us/\Q vs H'
def SP (X:Cx)(pins:List (Addr×Obj))(D:YA)(f:Flow)(s':Qe):Prop :=
 match f with
 | .next=>∃ σ' H',Inv X pins σ' H' s'/\D.nx σ' H'
 | .brk=>∃ σ' H',Inv X pins σ' H' s'/\D.bk σ' H'
 | .cont=>∃ σ' H',Inv X pins σ' H' s'/\D.ct σ' H'
 | .ret u=>∃ v σ' H',Inv X pins σ' H' s'/\RelV v u/\D.rt v H'
def PE (X:Cx)(e:Expr)(t:TE):Prop :=
 ∀ (pins:List (Addr×Obj)) (s:Qe) (σ:St) (H:Hp) (Q:VK),Inv X pins σ H s->t σ H Q->Qq (Qt X.prog X.w) X.A (eval e X.env) (EP X pins σ Q) X.xe s
def PT (X:Cx)(e:Expr)(t:TT):Prop :=
 ∀ (pins:List (Addr×Obj)) (s:Qe) (σ:St) (H:Hp) (Q:Bool->Hp->Prop),Inv X pins σ H s->t σ H Q->Qq (Qt X.prog X.w) X.A (isTrue e X.env (eval e X.env)) (TP X pins σ Q) X.xe s
def PW (X:Cx)(e:Expr)(t:TT):Prop :=
 ∀ (whole:Sem Qb) (pins:List (Addr×Obj)) (s:Qe) (σ:St) (H:Hp) (Q:Bool->Hp->Prop),Inv X pins σ H s->t σ H Q->Qq (Qt X.prog X.w) X.A (isTrue e X.env whole) (TP X pins σ Q) X.xe s
theorem PW.pt {X:Cx}{e:Expr}{t:TT}(h:PW X e t):PT X e t:=h _
def PA (X:Cx)(es:List Expr)(t:TA):Prop :=
 ∀ (pos:Pos) (pins:List (Addr×Obj)) (s:Qe) (σ:St) (H:Hp) (Q:List V->Hp->Prop),Inv X pins σ H s->t σ H Q->Qq (Qt X.prog X.w) X.A (spliced (Jg pos (QE es X.env))) (AP X pins σ Q) X.xe s
def PS (X:Cx)(st:Stmt)(t:TS):Prop :=
 ∀ (pins:List (Addr×Obj)) (s:Qe) (σ:St) (H:Hp) (D:YA),Inv X pins σ H s->t D σ H->Qq (Qt X.prog X.w) X.A (exec st X.env) (SP X pins D) X.xe s
def PSs (X:Cx)(st:List Stmt)(t:TS):Prop :=
 ∀ (pins:List (Addr×Obj)) (s:Qe) (σ:St) (H:Hp) (D:YA),Inv X pins σ H s->t D σ H->Qq (Qt X.prog X.w) X.A (execs st X.env) (SP X pins D) X.xe s
theorem Zs {α:Type}{t:Sem α}{Q Q':α->Qe->Prop}{M:Oh}{A:QF}{E:Qb->Qe->Prop}{s:Qe}(h:Qq M A t Q E s)(hQ:∀ a s,Q a s->Q' a s):Qq M A t Q' E s:=QS h hQ fun _ _ x=>x
section
variable {X:Cx}
def ZeB (i:Nat):TE:=fun σ H Q=>∃ v,σ[i]?=some (some v)/\Q v H
def tC (v:V):TE:=fun _ H Q=>Q v H
theorem ZhZ {i:Nat}{x:Str}{pos:Pos}(hN:X.N[i]?=some x)(hv:Vis X.env.scope x)(hd:(x == ("__debug__":Str))=false:=by decide)(hcd:(x == ("__classdict__":Str))=false:=by decide):PE X (.Name x pos) (ZeB i):=by
 intro pins s σ H Q I h
 obtain ⟨v,e,h⟩:=h
 obtain ⟨m,hn,hl⟩:=I.loc
 obtain ⟨u,r,l⟩:=hl i x v hN e hv
 have fin:EP X pins σ Q u s:=⟨v,H,I,r,h⟩
 rcases l with ⟨hk,hm⟩ | ⟨hk,c,hc,hcell⟩
 ·exact Ov (PP I.ok.kind hk hn hm fin) hd
 ·rcases hk with hk | hk
  ·exact Ov (RW I.ok.kind hk hc hcell fin) hd
  ·exact Ov (wpAny_loadName_free I.ok.kind hk hc hcell fin hcd) hd
theorem Zi {i j pos}:PE X (.Constant (.int i) j pos) (tC (.int i)):=fun _ _ _ H _ I h=>Ow ⟨.int i,H,I.tok _,⟨_,rfl⟩,h⟩
theorem YV {b j pos}:PE X (.Constant (.bool b) j pos) (tC (.bl b)):=fun _ _ _ H _ I h=>Constant_bool ⟨.bl b,H,I,rfl,h⟩
theorem XX {j pos}:PE X (.Constant .none j pos) (tC .non):=fun _ _ _ H _ I h=>Oi ⟨.non,H,I,rfl,h⟩
theorem ZS {x j pos}:PE X (.Constant (.str x) j pos) (tC (.str x)):=fun _ _ _ H _ I h=>Calls.Constant_str ⟨.str x,H,I.tok _,⟨_,rfl⟩,h⟩
def Gl (X:Cx)(x:Str):Prop:=X.env.kindOf x=some .globalImplicit
theorem WY {E:Qb->Qe->Prop}{pins:List (Addr×Obj)}{s:Qe}{σ:St}{H:Hp}{x:Str}{u:Qb}{pos:Pos}{Q:Qb->Qe->Prop}(I:Inv X pins σ H s)(hg:Gl X x)(hm:X.mg x=some u)(h:Q u s)
 (hd:(x == ("__debug__":Str))=false:=by decide):Qq (Qt X.prog X.w) X.A (eval (.Name x pos) X.env) Q E s :=
 Ts I.ok.kind hg (Calls.loadGlobal_global (by rw [I.ok.glob];exact I.mod.glob.keeps I.bk) hm h) hd
theorem Ur {E:Qb->Qe->Prop}{pins:List (Addr×Obj)}{s:Qe}{σ:St}{H:Hp}{x:Str}{u:Qb}{pos:Pos}{Q:Qb->Qe->Prop}(I:Inv X pins σ H s)(hg:Gl X x)(hm:X.mg x=none)(hv:Pc x=some u)(h:Q u s)
 (hn:x≠"__name__":=by decide) (hd:(x == ("__debug__":Str))=false:=by decide):Qq (Qt X.prog X.w) X.A (eval (.Name x pos) X.env) Q E s:=by
 obtain ⟨mb,h1,h2⟩:=I.mod.blt
 exact Ts I.ok.kind hg (Calls.loadGlobal_builtin (by rw [I.ok.glob];exact I.mod.glob.keeps I.bk) hm (by rw [I.ok.blt];exact h1.keeps I.bk) ((h2 x hn).trans hv) h) hd
theorem ZR {x:Str}{v:V}{u:Qb}{pos:Pos}(hg:Gl X x)(hm:X.mg x=some u)(r:RelV v u)(hd:(x == ("__debug__":Str))=false:=by decide):PE X (.Name x pos) (tC v) :=
 fun _ _ _ H _ I h=>WY I hg hm ⟨v,H,I,r,h⟩ hd
theorem Zls {x:Str}{v:V}{u:Qb}{pos:Pos}(hg:Gl X x)(hm:X.mg x=none)(hv:Pc x=some u)(r:RelV v u)(hn:x≠"__name__":=by decide)(hd:(x == ("__debug__":Str))=false:=by decide):PE X (.Name x pos) (tC v) :=
 fun _ _ _ H _ I h=>Ur I hg hm hv ⟨v,H,I,r,h⟩ hn hd
variable {a b:Expr}{ta tb:TE}{pos:Pos}
def PC (X:Cx)(op:CmpOp)(a b:Expr)(t:TE):Prop :=
 ∀ (pins:List (Addr×Obj)) (s:Qe) (σ:St) (H:Hp) (Q:VK),Inv X pins σ H s->t σ H Q ->
  Qq (Qt X.prog X.w) X.A (eval a X.env) (fun v s₁=>Qq (Qt X.prog X.w) X.A (eval b X.env) (fun u s₂=>Qq (Qt X.prog X.w) X.A (GL op v u) (EP X pins σ Q) X.xe s₂) X.xe s₁) X.xe s
theorem ZjN (b:Expr){op:CmpOp}(h:op≠.In)(h2:op≠.NotIn):Jp op b=false:=by
 have e1:(op == CmpOp.In)=false:=by cases op<;>first | rfl | exact absurd rfl h
 have e2:(op == CmpOp.NotIn)=false:=by cases op<;>first | rfl | exact absurd rfl h2
 cases b<;>simp [Jp,e1,e2]
def tIsN (ta:TE):TE:=fun σ H Q=>ta σ H fun x H1=>Q (.bl (decide (x=.non))) H1
def Zpn (ta:TE):TE:=fun σ H Q=>ta σ H fun x H1=>Q (.bl (!decide (x=.non))) H1
theorem RelV.none_iff {x:V}{v:Qb}(r:RelV x v):(v == QX)=decide (x=.non):=by
 cases x with
 | non=>cases r;rfl
 | bl _=>cases r;rfl
 | int _=>obtain ⟨t,rfl⟩:=r;rfl
 | str _=>obtain ⟨t,rfl⟩:=r;rfl
 | byt _=>obtain ⟨t,rfl⟩:=r;rfl
 | flt _=>obtain ⟨t,rfl⟩:=r;rfl
 | ref _=>cases r;rfl
 | ty _=>cases r;rfl
theorem Wh {j pos'}(ha:PE X a ta):PC X .Is a (.Constant .none j pos') (tIsN ta):=by
 intro pins s σ H Q I h
 refine Zs (ha pins s σ H _ I h) fun v s1 ⟨x,H1,I1,r1,q1⟩=>?_
 exact Oi (is_none_gen ⟨.bl _,H1,I1,by rw [r1.none_iff];rfl,q1⟩)
theorem Zlk {j pos'}(ha:PE X a ta):PC X .IsNot a (.Constant .none j pos') (Zpn ta):=by
 intro pins s σ H Q I h
 refine Zs (ha pins s σ H _ I h) fun v s1 ⟨x,H1,I1,r1,q1⟩=>?_
 exact Oi (isnot_none_gen ⟨.bl _,H1,I1,by rw [r1.none_iff];rfl,q1⟩)
def tB (t:TE):TT:=fun σ H Q=>t σ H fun x H1=>∃ c,x=.bl c/\Q c H1
theorem Xa {op:CmpOp}{t:TE}(h:PC X op a b t)(h1:Jp op b=false:=by first | exact ZjN _ (by decide) (by decide) | rfl):PT X (.Compare a [op] [b] pos) (tB t):=by
 intro pins s σ H Q I hw
 refine Rl (Zs (h pins s σ H _ I hw) fun v s1 h1=>Zs h1 fun u s2 h2=>Zs h2 fun c s3 ⟨x,H1,I1,r1,q1⟩=>?_) h1
 obtain ⟨d,rfl,q⟩:=q1
 cases r1
 exact GC ⟨H1,I1,q⟩
theorem XS {e:Expr}{t:TE}(h:PE X e t)(he:∀ whole,isTrue e X.env whole=(do let v <- whole;TV e.pos;Pd [v] (truthy v)):=by intro _;rfl):PT X e (tB t):=by
 intro pins s σ H Q I hw
 refine isTrue_plain (Zs (h pins s σ H _ I hw) fun v s1 ⟨x,H1,I1,r1,q1⟩=>?_) (he _)
 obtain ⟨d,rfl,q⟩:=q1
 cases r1
 exact GC ⟨H1,I1,q⟩
variable {tA tB':TT}{rest:List Expr}
def tAnd (t u:TT):TT:=fun σ H Q=>t σ H fun c H1=>if c=true then u σ H1 Q else Q false H1
def tOr (t u:TT):TT:=fun σ H Q=>t σ H fun c H1=>if c=true then Q true H1 else u σ H1 Q
def tNot (t:TT):TT:=fun σ H Q=>t σ H fun c H1=>Q (!c) H1
theorem UY (ha:PT X a tA):PW X (.BoolOp .And [a] pos) tA:=by
 intro wh pins s σ H Q I h
 refine isTrue_and (Zs (ha pins s σ H Q I h) fun c s1 e=>?_)
 cases c with
 | true=>exact isTrue_and_nil e
 | false=>exact e
theorem Zey (ha:PT X a tA):PW X (.BoolOp .Or [a] pos) tA:=by
 intro wh pins s σ H Q I h
 refine isTrue_or (Zs (ha pins s σ H Q I h) fun c s1 e=>?_)
 cases c with
 | false=>exact isTrue_or_nil e
 | true=>exact e
theorem VW (ha:PT X a tA)(hb:PW X (.BoolOp .And (b::rest) pos) tB'):PW X (.BoolOp .And (a::b::rest) pos) (tAnd tA tB'):=by
 intro wh pins s σ H Q I h
 refine isTrue_and (Zs (ha pins s σ H _ I h) fun c s1 ⟨H1,I1,q1⟩=>?_)
 cases c with
 | true=>exact hb wh pins s1 σ H1 Q I1 q1
 | false=>exact ⟨H1,I1,q1⟩
theorem ZgC (ha:PT X a tA)(hb:PW X (.BoolOp .Or (b::rest) pos) tB'):PW X (.BoolOp .Or (a::b::rest) pos) (tOr tA tB'):=by
 intro wh pins s σ H Q I h
 refine isTrue_or (Zs (ha pins s σ H _ I h) fun c s1 ⟨H1,I1,q1⟩=>?_)
 cases c with
 | true=>exact ⟨H1,I1,q1⟩
 | false=>exact hb wh pins s1 σ H1 Q I1 q1
theorem Wn (ha:PT X a tA):PT X (.UnaryOp .Not a pos) (tNot tA):=by
 intro pins s σ H Q I h
 exact isTrue_not (ha pins s σ H (fun c H1=>Q (!c) H1) I h)
def ZoE (ta tb:TE):TE:=fun σ H Q=>ta σ H fun x H1=>∃ c,x=.bl c/\if c=true then tb σ H1 Q else Q (.bl false) H1
theorem Zhc {op}{t:TE}(h:PE X a t):PE X (.BoolOp op [a] pos) t:=fun pins s σ H Q I hw=>BoolOp_one (h pins s σ H Q I hw)
theorem Zij (ha:PE X a ta)(hb:PE X (.BoolOp .And (b::rest) pos) tb):PE X (.BoolOp .And (a::b::rest) pos) (ZoE ta tb):=by
 intro pins s σ H Q I h
 refine BoolOp_and (Zs (ha pins s σ H _ I h) fun v s1 ⟨x,H1,I1,r1,q1⟩=>?_)
 obtain ⟨c,rfl,q1⟩:=q1
 cases r1
 refine GC ?_
 cases c with
 | true=>exact hb pins s1 σ H1 Q I1 q1
 | false=>exact ⟨.bl false,H1,I1,rfl,q1⟩
def tIf (t:TT)(ta tb:TE):TE:=fun σ H Q=>t σ H fun c H1=>if c=true then ta σ H1 Q else tb σ H1 Q
theorem Yo {c:Expr}(hc:PT X c tA)(ha:PE X a ta)(hb:PE X b tb):PE X (.IfExp c a b pos) (tIf tA ta tb):=by
 intro pins s σ H Q I h
 refine wpAny_IfExp (Zs (hc pins s σ H _ I h) fun d s1 ⟨H1,I1,q1⟩=>?_)
 cases d with
 | true=>exact ha pins s1 σ H1 Q I1 q1
 | false=>exact hb pins s1 σ H1 Q I1 q1
end
def SqL (K:Qa)(H:Hp)(a:Addr)(xs:List V):Prop :=
 Rd H a (.lst xs) \/
  ∃ (o:Obj) (its:Array Qb) (n:Nat),K.lookup a=some o/\o.cls=.type "list"/\o.dict=none/\o.data=.seq its n/\its.size<=Qi/\Vals xs its.toList
def SqT (K:Qa)(H:Hp)(a:Addr)(xs:List V):Prop :=
 Rd H a (.tup xs) \/
  ∃ (o:Obj) (its:Array Qb) (n:Nat),K.lookup a=some o/\o.cls=.type "tuple"/\o.data=.seq its n/\its.size<=Qi/\Vals xs its.toList
def ZgM:Qb->Option V
 | .none=>some .non
 | .bool b=>some (.bl b)
 | .int i _=>some (.int i)
 | .str x _=>some (.str x)
 | .bytes b _=>some (.byt b)
 | .float b _=>some (.flt b)
 | .ref a=>some (.ref a)
 | .type n=>some (.ty n)
 | _=>none
theorem RelV.abs {x:V}{u:Qb}(r:RelV x u):ZgM u=some x:=by
 cases x with
 | non=>cases r;rfl
 | bl _=>cases r;rfl
 | int _=>obtain ⟨t,rfl⟩:=r;rfl
 | str _=>obtain ⟨t,rfl⟩:=r;rfl
 | byt _=>obtain ⟨t,rfl⟩:=r;rfl
 | flt _=>obtain ⟨t,rfl⟩:=r;rfl
 | ref _=>cases r;rfl
 | ty _=>cases r;rfl
theorem RelV.inj {x y:V}{u:Qb}(r:RelV x u)(q:RelV y u):x=y:=QG (r.abs.symm.trans q.abs)
theorem Vals.inj:∀{xs ys:List V}{us:List Qb},Vals xs us->Vals ys us->xs=ys
 | _,_,_,.nil,.nil=>rfl
 | _,_,_,.cons r t,.cons r' t'=>by rw [r.inj r',Vals.inj t t']
section
variable {X:Cx}{pins:List (Addr×Obj)}{σ:St}{H:Hp}{s:Qe}{a:Addr}{xs ys:List V}
theorem SqL.of {K:Qa}(h:H a=some (.lst xs)):SqL K H a xs:=.inl (.inl h)
theorem SqT.of {K:Qa}(h:H a=some (.tup xs)):SqT K H a xs:=.inl (.inl h)
theorem Inv.list (I:Inv X pins σ H s)(h:SqL X.K H a xs):∃ its:List Qb,Vals xs its/\PlainL s.heap a its.toArray/\xs.length<=sizeLine:=by
 rcases h with h | ⟨o,its,n,hk,hc,hd,hs,hz,r⟩
 ·obtain ⟨z,its,n,r,e⟩:=h.ok I.hok
  exact ⟨its,r,⟨_,n,e,rfl,rfl,rfl⟩,z⟩
 ·refine ⟨its.toList,r,⟨o,n,I.kIn a o hk,hc,hd,by simpa using hs⟩,?_⟩
  have e:=r.length
  simp only [GG] at e
  omega
theorem Inv.tuple (I:Inv X pins σ H s)(h:SqT X.K H a xs):∃ its:List Qb,Vals xs its/\Rq s.heap a its.toArray/\xs.length<=sizeLine:=by
 rcases h with h | ⟨o,its,n,hk,hc,hs,hz,r⟩
 ·obtain ⟨z,its,r,p⟩:=h.ok I.hok
  exact ⟨its,r,p,z⟩
 ·refine ⟨its.toList,r,⟨o,I.kIn a o hk,hc,n,by simpa using hs⟩,?_⟩
  have e:=r.length
  simp only [GG] at e
  omega
theorem Inv.list_inj (I:Inv X pins σ H s)(h:SqL X.K H a xs)(h':SqL X.K H a ys):xs=ys:=by
 obtain ⟨its,r,⟨o,n,e,_,_,d⟩,_⟩:=I.list h
 obtain ⟨its',r',⟨o',n',e',_,_,d'⟩,_⟩:=I.list h'
 rw [e] at e';cases e'
 rw [d] at d'
 injection d' with d1 _
 have:its=its':=by simpa using congrArg Array.toList d1
 subst this
 exact r.inj r'
theorem Inv.tuple_inj (I:Inv X pins σ H s)(h:SqT X.K H a xs)(h':SqT X.K H a ys):xs=ys:=by
 obtain ⟨its,r,⟨o,e,_,n,d⟩,_⟩:=I.tuple h
 obtain ⟨its',r',⟨o',e',_,n',d'⟩,_⟩:=I.tuple h'
 rw [e] at e';cases e'
 rw [d] at d'
 injection d' with d1 _
 have:its=its':=by simpa using congrArg Array.toList d1
 subst this
 exact r.inj r'
end
abbrev Cx.wish (X:Cx)(E:Qb->Qe->Prop):Cx:={ X with xe:=E }
abbrev Cx.nox (X:Cx):Cx:=X.wish fun _ _=>False
theorem Cx.Ok.wish {X:Cx}(ok:X.Ok)(E:Qb->Qe->Prop):(X.wish E).Ok :=
 ⟨ok.mod,ok.kind,ok.glob,ok.blt,ok.above,ok.inj,ok.has,ok.cab,ok.hd,ok.frames,ok.stk,ok.exf,ok.bs,ok.bsz,ok.noex,ok.exfs,ok.funs,ok.frf⟩
theorem Cx.Ok.unwish {X:Cx}{E:Qb->Qe->Prop}(ok:(X.wish E).Ok):X.Ok :=
 ⟨ok.mod,ok.kind,ok.glob,ok.blt,ok.above,ok.inj,ok.has,ok.cab,ok.hd,ok.frames,ok.stk,ok.exf,ok.bs,ok.bsz,ok.noex,ok.exfs,ok.funs,ok.frf⟩
section
variable {X:Cx}{pins:List (Addr×Obj)}{σ:St}{H:Hp}{s:Qe}{E:Qb->Qe->Prop}
theorem Inv.wish (I:Inv X pins σ H s)(E:Qb->Qe->Prop):Inv (X.wish E) pins σ H s:=⟨I.ok.wish E,I.os,I.bare,I.base,I.loc,I.cell,I.free,I.freeC,I.pin,I.hok,I.len⟩
theorem Inv.unwish (I:Inv (X.wish E) pins σ H s):Inv X pins σ H s:=⟨I.ok.unwish,I.os,I.bare,I.base,I.loc,I.cell,I.free,I.freeC,I.pin,I.hok,I.len⟩
theorem SP.unwish {D:YA}{f:Flow}{s':Qe}(h:SP (X.wish E) pins D f s'):SP X pins D f s':=by
 cases f with
 | next=>obtain ⟨σ',H',I,q⟩:=h;exact ⟨σ',H',I.unwish,q⟩
 | brk=>obtain ⟨σ',H',I,q⟩:=h;exact ⟨σ',H',I.unwish,q⟩
 | cont=>obtain ⟨σ',H',I,q⟩:=h;exact ⟨σ',H',I.unwish,q⟩
 | ret u=>obtain ⟨v,σ',H',I,r,q⟩:=h;exact ⟨v,σ',H',I.unwish,r,q⟩
theorem PSs.nox {st:List Stmt}{t:TS}(h:PSs X.nox st t):PSs X st t:=fun pins s σ H D I hw =>
 QS (h pins s σ H D (I.wish _) hw) (fun _ _ q=>q.unwish) fun _ _ z=>QN z
end
section
variable {X:Cx}{st:Stmt}{rest:List Stmt}{t u:TS}{e:Expr}{te:TE}{pos:Pos}
def Zpi:TS:=fun D σ H=>D.nx σ H
def Yb (t u:TS):TS:=fun D σ H=>t { D with nx:=u D } σ H
theorem ZM:PSs X [] Zpi:=fun _ _ σ H _ I h=>PU ⟨σ,H,I,h⟩
theorem Ze (h1:PS X st t)(h2:PSs X rest u):PSs X (st::rest) (Yb t u):=by
 intro pins s σ H D I h
 refine Sn (Zs (h1 pins s σ H { D with nx:=u D } I h) fun f s1 q=>?_)
 cases f with
 | next =>
  obtain ⟨σ',H',I',q⟩:=q
  exact h2 pins s1 σ' H' D I' q
 | ret v=>exact q
 | brk=>exact q
 | cont=>exact q
theorem Zh (h1:PS X st t):PSs X [st] t:=by
 intro pins s σ H D I h
 refine Sn (Zs (h1 pins s σ H D I h) fun f s1 q=>?_)
 cases f with
 | next=>exact PU q
 | ret v=>exact q
 | brk=>exact q
 | cont=>exact q
theorem Inv.quiet {pins:List (Addr×Obj)}{σ:St}{H:Hp}{s:Qe}(I:Inv X pins σ H s):interactive X.env=false:=by simp [interactive,I.ok.kind]
def Zpj (te:TE):TS:=fun D σ H=>te σ H fun _ H1=>D.nx σ H1
theorem ZU (he:PE X e te)(hs:To e none pos.line X.env=pure false:=by rfl):PS X (.Expr e pos) (Zpj te):=by
 intro pins s σ H D I h
 exact wpAny_Expr_any (Zs (he pins s σ H _ I h) fun v s1 ⟨x,H1,I1,r1,q1⟩=>⟨σ,H1,I1,q1⟩) I.quiet hs
def tRet (te:TE):TS:=fun D σ H=>te σ H D.rt
theorem Zq (he:PE X e te):PS X (.Return (some e) pos) (tRet te):=by
 intro pins s σ H D I h
 exact wpAny_Return_some (Zs (he pins s σ H _ I h) fun v s1 ⟨x,H1,I1,r1,q1⟩=>⟨x,σ,H1,I1,r1,q1⟩)
def tIfS (c:TT)(t u:TS):TS:=fun D σ H=>c σ H fun b H1=>if b=true then t D σ H1 else u D σ H1
theorem ZZ {c:Expr}{a b:List Stmt}{tc:TT}(hc:PT X c tc)(ha:PSs X a t)(hb:PSs X b u):PS X (.If c a b pos) (tIfS tc t u):=by
 intro pins s σ H D I h
 refine wpAny_If (Zs (hc pins s σ H _ I h) fun d s1 ⟨H1,I1,q1⟩=>?_)
 cases d with
 | true=>exact ha pins s1 σ H1 D I1 q1
 | false=>exact hb pins s1 σ H1 D I1 q1
end
abbrev TG:=V->St->Hp->(St->Hp->Prop)->Prop
abbrev TGs:=List V->St->Hp->(St->Hp->Prop)->Prop
def PG (X:Cx)(target:Expr)(t:TG):Prop :=
 ∀ (pins:List (Addr×Obj)) (s:Qe) (σ:St) (H:Hp) (v:V) (u:Qb) (Q:St->Hp->Prop),Inv X pins σ H s->RelV v u->t v σ H Q ->
  Qq (Qt X.prog X.w) X.A (Rt target X.env u) (fun _ s'=>∃ σ' H',Inv X pins σ' H' s'/\Q σ' H') X.xe s
def PGs (X:Cx)(ts:List Expr)(t:TGs):Prop :=
 ∀ (pins:List (Addr×Obj)) (s:Qe) (σ:St) (H:Hp) (vs:List V) (us:List Qb) (Q:St->Hp->Prop),Inv X pins σ H s->Vals vs us->t vs σ H Q ->
  Qq (Qt X.prog X.w) X.A (PJ ((Tt ts X.env).map (·.2)) us) (fun _ s'=>∃ σ' H',Inv X pins σ' H' s'/\Q σ' H') X.xe s
abbrev ZjK:=V->V->V->Hp->(Hp->Prop)->Prop
def PSet (X:Cx)(t:ZjK):Prop :=
 ∀ (pins:List (Addr×Obj)) (s:Qe) (σ:St) (H:Hp) (o i v:V) (ov iv u:Qb) (Q:Hp->Prop),Inv X pins σ H s->RelV o ov->RelV i iv->RelV v u->t o i v H Q ->
  Qq (Qt X.prog X.w) X.A (setItem ov iv u) (fun _ s'=>∃ H',Inv X pins σ H' s'/\Q H') X.xe s
abbrev TIp:=V->V->Hp->VK->Prop
def PIp (X:Cx)(op:Operator)(t:TIp):Prop :=
 ∀ (pins:List (Addr×Obj)) (s:Qe) (σ:St) (H:Hp) (x y:V) (v u:Qb) (Q:VK),Inv X pins σ H s->RelV x v->RelV y u->t x y H Q ->
  Qq (Qt X.prog X.w) X.A (inplaceOp op v u) (EP X pins σ Q) X.xe s
section
variable {X:Cx}{pos:Pos}
def Vx (i:Nat):TG:=fun v σ H Q=>Q (σ.set i (some v)) H
theorem ZA {i:Nat}{x:Str}(hN:X.N.Nodup)(hi:X.N[i]?=some x)(hx:Loc X.env.scope x)(hf:X.fn x=true\/X.env.scope.names.lookup x=some .local:=by first | exact .inl rfl | exact .inr rfl | assumption):PG X (.Name x pos) (Vx i):=by
 intro pins s σ H v u Q I r h
 exact OM (Xj I hN hi hx r (fun s' I'=>⟨_,H,I',h⟩) hf)
def gNil:TGs:=fun vs σ H Q=>vs=[]/\Q σ H
def Zgr (t:TG)(u:TGs):TGs:=fun vs σ H Q=>∃ v r,vs=v::r/\t v σ H fun σ' H'=>u r σ' H' Q
theorem Xb:PGs X [] gNil:=by
 intro pins s σ H vs us Q I r h
 obtain ⟨e,h⟩:=h
 subst e
 cases r
 exact TW ⟨σ,H,I,h⟩
theorem ZF {e:Expr}{es:List Expr}{t:TG}{u:TGs}(h1:PG X e t)(h2:PGs X es u)
 (hs:(Tt (e::es) X.env).map (·.2)=Rt e X.env::(Tt es X.env).map (·.2):=by rfl):PGs X (e::es) (Zgr t u):=by
 intro pins s σ H vs us Q I r h
 obtain ⟨v,vr,e1,h⟩:=h
 subst e1
 cases r with
 | cons r rr =>
  rw [hs]
  refine GN (Zs (h1 pins s σ H _ _ _ I r h) fun _ s1 ⟨σ1,H1,I1,q1⟩=>?_)
  exact h2 pins s1 σ1 H1 _ _ Q I1 rr q1
def gTup (K:Qa)(n:Nat)(t:TGs):TG:=fun v σ H Q=>∃ a xs,v=.ref a/\SqT K H a xs/\xs.length=n/\t xs σ H Q
theorem Xz {es:List Expr}{k:Nat}{t:TGs}{n:Nat}(hc:X.calm=true)(h:PGs X es t)
 (hn:(Tt es X.env).length=n:=by rfl) (hst:(Tt es X.env).findIdx? (·.1)=none:=by rfl):PG X (.Tuple es k pos) (gTup X.K n t):=by
 intro pins s σ H v u Q I r hw
 obtain ⟨a,xs,e1,hq,hl,hw⟩:=hw
 subst e1
 cases r
 obtain ⟨its,rv,ht,hz⟩:=I.tuple hq
 refine assign_Tuple_tuple (I.ok.hd hc) ht (by simp [hn,<- hl,rv.length]) hst fun h' hx=>?_
 have I1:Inv X pins σ H { s with heap:=h' }:=I.kept (t':=s.toks) fun b o e=>hx b o (Qw (Qj e)) e
 exact h pins _ σ H xs _ Q I1 (by simpa using rv) hw
def gSub (to ti:TE)(t:ZjK):TG:=fun v σ H Q=>to σ H fun o H1=>ti σ H1 fun i H2=>t o i v H2 fun H3=>Q σ H3
theorem Wm {o i:Expr}{to ti:TE}{t:ZjK}(ho:PE X o to)(hi:PE X i ti)(hs:PSet X t)
 (ha:∀ v,Rt (.Subscript o i pos) X.env v=(do
  let ov <- Pd [v] (eval o X.env)
  let iv <- Pd [v,ov] (eval i X.env)
  TV pos
  Pd [v,ov,iv] (setItem ov iv v)
  release [v,ov,iv] []):=by intro _;rfl):PG X (.Subscript o i pos) (gSub to ti t):=by
 intro pins s σ H v u Q I r h
 rw [ha]
 refine Qg (Ge (Zs (ho pins s σ H _ I h) fun ov s1 ⟨x,H1,I1,r1,q1⟩=>?_))
 refine Qg (Ge (Zs (hi pins s1 σ H1 _ I1 q1) fun iv s2 ⟨y,H2,I2,r2,q2⟩=>?_))
 refine Qg (Gz (Qg (Ge (Zs (hs pins s2 σ H2 x y v ov iv u _ I2 r1 r2 r q2) fun _ s3 ⟨H3,I3,q3⟩=>?_))))
 exact wpAny_release ⟨σ,H3,I3,q3⟩
def ZgH (te:TE)(g:TG):TS:=fun D σ H=>te σ H fun x H1=>g x σ H1 D.nx
theorem Yu {tg e:Expr}{te:TE}{g:TG}(he:PE X e te)(hg:PG X tg g)(hs:Oj [tg] e pos.line X.env=pure false:=by rfl)(hw:Ol [tg] e X.env=pure none:=by rfl)
 (h1:(Tt [tg] X.env).map (·.2)=[Rt tg X.env]:=by rfl):PS X (.Assign [tg] e pos) (ZgH te g):=by
 intro pins s σ H D I h
 refine wpAny_Assign_stores (Zs (he pins s σ H _ I h) fun v s1 ⟨x,H1,I1,r1,q1⟩=>?_) hs hw
 rw [h1]
 exact Zs (hg pins s1 σ H1 x v _ I1 r1 q1) fun _ s2 q=>q
theorem Zv {i:Nat}{x:Str}{e:Expr}{te:TE}{pos':Pos}(hN:X.N.Nodup)(hi:X.N[i]?=some x)(hx:Loc X.env.scope x)(he:PE X e te)(hs:To e (some (.Name x pos')) pos.line X.env=pure false:=by rfl)(hf:X.fn x=true\/X.env.scope.names.lookup x=some .local:=by first | exact .inl rfl | exact .inr rfl | assumption) :
 PS X (.Assign [.Name x pos'] e pos) (ZgH te (Vx i)):=by
 intro pins s σ H D I h
 refine wpAny_Assign_Name (Zs (he pins s σ H _ I h) fun v s1 ⟨y,H1,I1,r1,q1⟩=>?_) hs
 exact Xj I1 hN hi hx r1 (fun s2 I2=>⟨_,H1,I2,q1⟩) hf
def tPar (i j:Nat)(ta:TA):TS:=fun D σ H=>ta σ H fun vs H1=>∃ v w,vs=[v,w]/\D.nx ((σ.set i (some v)).set j (some w)) H1
theorem ZnY {i j:Nat}{x y:Str}{a b:Expr}{ta:TA}{px py pt:Pos}{kt k2 pt2}(hc:X.calm=true)(hN:X.N.Nodup)(hi:X.N[i]?=some x)(hj:X.N[j]?=some y)(hij:i≠j)
 (hx:X.env.scope.names.lookup x=some .local) (hy:X.env.scope.names.lookup y=some .local) (ha:PA X [a,b] ta)
 (hw:Ol [.Tuple [.Name x px,.Name y py] kt pt] (.Tuple [a,b] k2 pt2) X.env=pure (some [x,y]))
 (hs:Oj [.Tuple [.Name x px,.Name y py] kt pt] (.Tuple [a,b] k2 pt2) pos.line X.env=pure false:=by rfl) :
 PS X (.Assign [.Tuple [.Name x px,.Name y py] kt pt] (.Tuple [a,b] k2 pt2) pos) (tPar i j ta):=by
 intro pins s σ H D I h
 rw [NN]
 refine Qg (Gz ?_)
 rw [hs]
 refine Qg (Qp ?_)
 rw [if_neg (by decide)]
 refine Qg (Tuple_ (Zs (ha _ pins s σ H _ I h) fun us s1 ⟨vs,H1,I1,r1,q1⟩=>?_))
 obtain ⟨v,w,e1,q1⟩:=q1
 subst e1
 obtain ⟨u1,u2,rfl,rv,rw'⟩:∃ u1 u2,us=[u1,u2]/\RelV v u1/\RelV w u2:=by
  cases r1 with
  | cons p q =>
   cases q with
   | cons p' q' =>
    cases q'
    exact ⟨_,_,rfl,p,p'⟩
 refine Gj ?_ (by show 2<=Qi;decide)
 have I2:Inv X pins σ H1 { s1 with heap:=s1.heap.push { cls:=.type "tuple",data:=.seq [u1,u2].toArray } }:=I1.kept (t':=s1.toks) fun b o e=>Qd _ e
 rw [hw]
 refine Qg (Qp ?_)
 show Qq (Qt X.prog X.w) X.A (do rule "assign.swapped-stores";let items <- unpackItems (.ref s1.heap.objs.size) 2 none;PJ [fun v=>JC X.env y v,fun v=>JC X.env x v] items.reverse;pure Ni) _ _ _
 refine Qg (Ox (Qg (ON (items:=#[u1,u2]) (I.ok.hd hc) (Tp s1.heap _) fun h' hx'=>?_)))
 have I3:=I2.kept (h':=h') (t':=s1.toks) fun b o e=>hx' b o (Qw (Qj e)) e
 show Qq _ _ (PJ [fun v=>JC X.env y v,fun v=>JC X.env x v] [u2,u1] >>= fun _=>pure Ni) _ _ _
 refine Qg (GN (Pe (Xj I3 hN hj (.inl hy) rw' (fun s2 I4=>?_) (.inr hy))))
 refine GN (Pe (Xj I4 hN hi (.inl hx) rv (fun s3 I5=>TW (Qp ?_)) (.inr hx)))
 rw [Sg _ _ (Gv hij)] at I5
 exact ⟨_,H1,I5,q1⟩
def tAug (i:Nat)(te:TE)(ti:TIp):TS:=fun D σ H=>∃ x,σ[i]?=some (some x)/\te σ H fun y H1=>ti x y H1 fun z H2=>D.nx (σ.set i (some z)) H2
theorem Zmq {i:Nat}{x:Str}{e:Expr}{te:TE}{op:Operator}{ti:TIp}{pos':Pos}(hN:X.N.Nodup)(hi:X.N[i]?=some x)(hx:Loc X.env.scope x)(he:PE X e te)(ho:PIp X op ti)(hf:X.fn x=true\/X.env.scope.names.lookup x=some .local:=by first | exact .inl rfl | exact .inr rfl | assumption) :
 PS X (.AugAssign (.Name x pos') op e pos) (tAug i te ti):=by
 intro pins s σ H D I h
 obtain ⟨v,e1,h⟩:=h
 obtain ⟨m,hn,hl⟩:=I.loc
 have vis:Vis X.env.scope x:=by rcases hx with k | k;exact .inl k;exact .inr (.inl k)
 obtain ⟨u,r,l⟩:=hl i x v hi e1 vis
 refine wpAny_AugAssign_Name ?_
 have go:Qq (Qt X.prog X.w) X.A (eval e X.env) (fun w s₂=>Qq (Qt X.prog X.w) X.A (inplaceOp op u w) (fun r s₃=>Qq (Qt X.prog X.w) X.A (storeName X.env x r) (fun _=>SP X pins D .next) X.xe s₃) X.xe s₂) X.xe s:=by
  refine Zs (he pins s σ H _ I h) fun w s1 ⟨y,H1,I1,r1,q1⟩=>?_
  refine Zs (ho pins s1 σ H1 v y u w _ I1 r r1 q1) fun z s2 ⟨zv,H2,I2,r2,q2⟩=>?_
  exact Xj I2 hN hi hx r2 (fun s3 I3=>⟨_,H2,I3,q2⟩) hf
 rcases l with ⟨hk,hm⟩ | ⟨hk,c,hc,hcell⟩
 ·exact PP I.ok.kind hk hn hm go
 ·rcases hk with hk | hk
  ·exact RW I.ok.kind hk hc hcell go
  ·rcases hx with k | k
   ·have:X.env.scope.names.lookup x=some .free:=hk
    rw [k] at this;cases this
   ·have:X.env.scope.names.lookup x=some .free:=hk
    rw [k] at this;cases this
def ipI (f:Int->Int->Int):TIp:=fun x y H Q=>∃ i j,x=.int i/\y=.int j/\Q (.int (f i j)) H
theorem Zok:PIp X .Add (ipI fun i j=>i+j):=by
 intro pins s σ H x y v u Q I r1 r2 h
 obtain ⟨i,j,e1,e2,q⟩:=h
 subst e1;subst e2
 obtain ⟨t,rfl⟩:=r1
 obtain ⟨t',rfl⟩:=r2
 exact iadd_int ⟨.int _,H,I.tok _,⟨_,rfl⟩,q⟩
end
section
variable {X:Cx}{pos:Pos}
def ZnS (c:TT)(tb:TS):TS:=fun D σ H=>∃ W:Nat->St->Hp->Prop,(∃ m,W m σ H)/\∀ m σ H,W m σ H ->
 c σ H fun b H1=>if b=true then ∃ N:St->Hp->Prop,(∀ σ' H',N σ' H'->∃ m',m' < m/\W m' σ' H')/\tb { D with nx:=N,ct:=N,bk:=D.nx } σ H1 else D.nx σ H1
theorem Zeb {c:Expr}{body:List Stmt}{tc:TT}{tb:TS}(hp:PassesOwn (Qt X.prog X.w) X.A X.env X.xe)(hc:PT X c tc)(hb:PSs X body tb):PS X (.While c body [] pos) (ZnS tc tb):=by
 intro pins s σ H D I h
 obtain ⟨W,⟨m0,w0⟩,turn⟩:=h
 refine wpAny_While (codeAny_whileLoop (fun n s'=>∃ σ' H',Inv X pins σ' H' s'/\W n σ' H') ?_ m0 ⟨σ,H,I,w0⟩)
 rintro n s1 ⟨σ1,H1,I1,w1⟩
 refine GT hp (Zs (hc pins s1 σ1 H1 _ I1 (turn n σ1 H1 w1)) fun b s2 ⟨H2,I2,q2⟩=>?_)
 cases b with
 | true =>
  obtain ⟨N,hN,q2⟩:=q2
  rw [if_pos rfl]
  refine GT hp (Zs (hb pins s2 σ1 H2 _ I2 q2) fun f s3 q3=>?_)
  cases f with
  | next =>
   obtain ⟨σ3,H3,I3,n3⟩:=q3
   obtain ⟨m',hm,w3⟩:=hN σ3 H3 n3
   exact ⟨m',hm,σ3,H3,I3,w3⟩
  | cont =>
   obtain ⟨σ3,H3,I3,n3⟩:=q3
   obtain ⟨m',hm,w3⟩:=hN σ3 H3 n3
   exact ⟨m',hm,σ3,H3,I3,w3⟩
  | brk=>exact q3
  | ret v=>exact q3
 | false =>
  rw [if_neg QH]
  exact PU ⟨σ1,H2,I2,q2⟩
end
structure It where
 go:Nat->Hp->Prop
 yld:Nat->Hp->V->Hp->Prop
 stop:Nat->Hp->Prop
def Wl (X:Cx)(pins:List (Addr×Obj))(H:Hp)(b:Addr):Prop :=
 H b=none/\b≠X.env.locals/\b ∉ X.fs/\(b∈X.ex\/X.s₀.heap.objs.size<=b)/\(∀ x c,X.env.cells.lookup x=some c->c≠b)/\∀ p∈X.pn++pins,p.1≠b
theorem Inv.fpOk {X:Cx}{pins:List (Addr×Obj)}{σ:St}{H H':Hp}{s:Qe}{b:Addr}(I:Inv X pins σ H s)(hb:s.heap.objs.size<=b)(hn:H' b=none):Wl X pins H' b:=by
 refine ⟨hn,Jl (QD I.lt hb),I.nofs hb,.inr (Qn I.sz hb),fun x c e z=>?_,fun p hp z=>?_⟩
 ·obtain ⟨v,q⟩:=I.cell x c e
  exact absurd (QD q.lt (by rw [z];exact hb)) (GJ _)
 ·exact absurd (QD (Qj (I.pin p hp).1) (by rw [z];exact hb)) (GJ _)
structure VG (P:Qk)(w:Qv)(K:Qa)(tg:Expr)(J:It)(fp:List Addr)(it:Addr)(tn:Nat->Heap->Prop):Prop where
 mem:it∈fp
 obj:∀ i h,tn i h->∀ b∈fp,∃ o,h.get? b=some o/\∀ v,o.data≠.cell v
 keep:∀ i h h',tn i h->(∀ b∈fp,∀ o,h.get? b=some o->h'.get? b=some o)->tn i h'
 item:∀ (X:Cx),X.prog=P->X.w=w->X.K=K->X.calm=true->∀ (i:Nat) (pins:List (Addr×Obj)) (s:Qe) (σ:St) (H:Hp) (E:Qb->Qe->Prop),Inv X pins σ H s->(∀ b∈fp,Wl X pins H b)->tn i s.heap->J.go i H ->
  Qq (Qt P w) X.A (pyNext (.ref it)) (fun r s1=>∃ u,r=some u /\
   Qq (Qt P w) X.A (PV tg (.ref it) u) (fun _ s2=>∃ x H',Inv X pins σ H' s2/\RelV x u/\J.yld i H x H'/\tn (i+1) s2.heap/\∀ b∈fp,H' b=none) E s1) E s
 done:∀ (X:Cx),X.prog=P->X.w=w->X.K=K->X.calm=true->∀ (i:Nat) (pins:List (Addr×Obj)) (s:Qe) (σ:St) (H:Hp) (E:Qb->Qe->Prop),Inv X pins σ H s->(∀ b∈fp,Wl X pins H b)->tn i s.heap->J.stop i H ->
  Qq (Qt P w) X.A (pyNext (.ref it)) (fun r s1=>r=none/\Inv X pins σ H s1) E s
 self:∀ (A:QF) (i:Nat) (s:Qe) (Q:Qb->Qe->Prop) (E:Qb->Qe->Prop),tn i s.heap->Q (.ref it) s->Qq (Qt P w) A (pyIter (.ref it)) Q E s
abbrev TI:=St->Hp->(It->Hp->Prop)->Prop
def PIE (X:Cx)(pins:List (Addr×Obj))(σ:St)(tg:Expr)(R:It->Hp->Prop)(itv:Qb)(s2:Qe):Prop :=
 ∃ (it:Addr) (fp:List Addr) (tn:Nat->Heap->Prop) (J:It) (H':Hp),itv=.ref it/\Inv X pins σ H' s2/\VG X.prog X.w X.K tg J fp it tn/\tn 0 s2.heap/\(∀ b∈fp,Wl X pins H' b)/\R J H'
def PI (X:Cx)(tg iter:Expr)(wi:TI):Prop :=
 ∀ (pins:List (Addr×Obj)) (s:Qe) (σ:St) (H:Hp) (R:It->Hp->Prop),Inv X pins σ H s->wi σ H R ->
  Qq (Qt X.prog X.w) X.A (eval iter X.env) (fun v s1=>Qq (Qt X.prog X.w) X.A (pyIter v) (PIE X pins σ tg R) X.xe s1) X.xe s
theorem Zdx {M:Oh}{A:QF}{E:Qb->Qe->Prop}{s:Qe}{tg:Expr}{it:Addr}{u:Qb}{o:Obj}{n:String}{vs:Array Qb}{Q:Unit->Qe->Prop}(ho:s.heap.get? it=some o)(hc:o.cls=.type n)(hd:o.data=.fields vs)
   (hn:["enumerate","zip","dict_itemiterator","dict_reverseitemiterator","odict_iterator","itertools.zip_longest","itertools.pairwise"].contains n=false) (hQ:Q () s):Qq M A (PV tg (.ref it) u) Q E s:=by
 unfold PV
 cases tg <;> first
   | exact Qp hQ
   | (cases u<;>first
       | exact Qp hQ
       | (refine Qg (wpAny_load ho ?_)
          rw [hc,hd]
          show Qq M A (if (["enumerate","zip","dict_itemiterator","dict_reverseitemiterator","odict_iterator","itertools.zip_longest","itertools.pairwise"].contains n&&vs[0]? == some (Gf _))=true then _ else _) Q E s
          rw [if_neg (by intro h;rw [hn,Bool.false_and] at h;cases h)]
          exact Qp hQ))
def Itl (K:Qa)(a:Addr):It :=
 ⟨fun i H=>∃ xs x,SqL K H a xs/\xs[i]?=some x,fun i H x H'=>H'=H/\∀ xs,SqL K H a xs->xs[i]?=some x,fun i H=>∃ xs,SqL K H a xs/\xs.length<=i⟩
def Itt (K:Qa)(a:Addr):It :=
 ⟨fun i H=>∃ xs x,SqT K H a xs/\xs[i]?=some x,fun i H x H'=>H'=H/\∀ xs,SqT K H a xs->xs[i]?=some x,fun i H=>∃ xs,SqT K H a xs/\xs.length<=i⟩
def Itr (lo:Int)(n:Nat):It:=⟨fun i _=>i < n,fun i H x H'=>H'=H/\x=.int (lo+i),fun i _=>n<=i⟩
theorem Ziv {P:Qk}{w:Qv}{K:Qa}{tg:Expr}(a it:Addr):VG P w K tg (Itl K a) [it] it (fun i h=>h.IsListIter it a i) where
 mem:=by simp
 obj:=fun i h st b hb=>by
  have e:b=it:=by simpa using hb
  subst e
  obtain ⟨o,e,c,d⟩:=st
  exact ⟨o,e,fun v z=>by rw [d] at z;cases z⟩
 keep:=fun i h h' st k=>st.at fun o e=>k it (by simp) o e
 item:=by
  intro X hP hw hK hc i pins s σ H E I hf st hg
  subst hP hw hK
  obtain ⟨xs,x,hq,hx⟩:=hg
  obtain ⟨its,rv,p,hz⟩:=I.list hq
  obtain ⟨u,hu,ru⟩:=rv.get hx
  obtain ⟨f0,f1,f2,f3,f4,f5⟩:=hf it (by simp)
  refine wpAny_pyNext_list_item st p.isList (x:=u) (by simpa using hu) fun h' st' sb=>?_
  have I1:Inv X pins σ H { s with heap:=h' }:=I.turned (t':=s.toks) (fun b o hb e=>(sb.2 b hb).trans e) f0 f1 f3 f4 f5
  obtain ⟨o,e,c,d⟩:=id st'
  exact ⟨u,rfl,Zdx (s:={ s with heap:=h' }) e c d (by decide) ⟨x,H,I1,ru,⟨rfl,fun ys hy=>by rw [I.list_inj hy hq];exact hx⟩,st',fun b hb=>(hf b hb).1⟩⟩
 done:=by
  intro X hP hw hK hc i pins s σ H E I hf st hg
  subst hP hw hK
  obtain ⟨xs,hq,hx⟩:=hg
  obtain ⟨its,rv,p,hz⟩:=I.list hq
  obtain ⟨f0,f1,f2,f3,f4,f5⟩:=hf it (by simp)
  have hl:=rv.length
  exact wpAny_pyNext_list_end (I.ok.hd hc) st p.isList (by simp;omega) fun h' eb=>⟨rfl,I.turned (t':=s.toks) (fun b o hb e=>eb b o hb e) f0 f1 f3 f4 f5⟩
 self:=fun _ _ _ _ _ st h=>wpAny_pyIter_listiter st h
theorem Zgu {P:Qk}{w:Qv}{K:Qa}{tg:Expr}(a it:Addr):VG P w K tg (Itt K a) [it] it (fun i h=>h.IsTupleIter it a i) where
 mem:=by simp
 obj:=fun i h st b hb=>by
  have e:b=it:=by simpa using hb
  subst e
  obtain ⟨o,e,c,d⟩:=st
  exact ⟨o,e,fun v z=>by rw [d] at z;cases z⟩
 keep:=fun i h h' st k=>st.at fun o e=>k it (by simp) o e
 item:=by
  intro X hP hw hK hc i pins s σ H E I hf st hg
  subst hP hw hK
  obtain ⟨xs,x,hq,hx⟩:=hg
  obtain ⟨its,rv,p,hz⟩:=I.tuple hq
  obtain ⟨u,hu,ru⟩:=rv.get hx
  obtain ⟨f0,f1,f2,f3,f4,f5⟩:=hf it (by simp)
  refine wpAny_pyNext_tuple_item st (show s.heap.IsTuple a its.toArray from p) (x:=u) (by simpa using hu) fun h' st' sb=>?_
  have I1:Inv X pins σ H { s with heap:=h' }:=I.turned (t':=s.toks) (fun b o hb e=>(sb.2 b hb).trans e) f0 f1 f3 f4 f5
  obtain ⟨o,e,c,d⟩:=id st'
  exact ⟨u,rfl,Zdx (s:={ s with heap:=h' }) e c d (by decide) ⟨x,H,I1,ru,⟨rfl,fun ys hy=>by rw [I.tuple_inj hy hq];exact hx⟩,st',fun b hb=>(hf b hb).1⟩⟩
 done:=by
  intro X hP hw hK hc i pins s σ H E I hf st hg
  subst hP hw hK
  obtain ⟨xs,hq,hx⟩:=hg
  obtain ⟨its,rv,p,hz⟩:=I.tuple hq
  obtain ⟨f0,f1,f2,f3,f4,f5⟩:=hf it (by simp)
  have hl:=rv.length
  exact wpAny_pyNext_tuple_end (I.ok.hd hc) st (show s.heap.IsTuple a its.toArray from p) (by simp;omega) fun h' eb=>⟨rfl,I.turned (t':=s.toks) (fun b o hb e=>eb b o hb e) f0 f1 f3 f4 f5⟩
 self:=fun _ _ _ _ _ st h=>wpAny_pyIter_tupleiter st h
theorem ZgS {P:Qk}{w:Qv}{K:Qa}{tg:Expr}(it:Addr)(lo:Int)(n:Nat):VG P w K tg (Itr lo n) [it] it (fun i h=>IsRangeIter h it (lo+(i:Nat) * 1) ((n:Int) - (i:Nat)) 1) where
 mem:=by simp
 obj := fun i h st b hb=>by
  have e:b=it:=by simpa using hb
  subst e
  exact ⟨_,st,fun v z=>by
   have z':Data.fields _=Data.cell v:=z
   cases z'⟩
 keep:=fun i h h' st k=>k it (by simp) _ st
 item:=by
  intro X hP hw hK hc i pins s σ H E I hf st hg
  subst hP hw hK
  obtain ⟨f0,f1,f2,f3,f4,f5⟩:=hf it (by simp)
  have W:=Walks.range (prog:=X.prog) (w:=X.w) (I.ok.hd hc) it lo 1 n
  refine W.item i s _ _ hg st fun v h' tk hv st' kk=>?_
  obtain ⟨t,rfl⟩:=hv
  have I1:Inv X pins σ H { s with heap:=h',toks:=tk }:=I.turned (fun b o hb e=>kk b o (by simpa using hb) e) f0 f1 f3 f4 f5
  refine ⟨_,rfl,Zdx (s:={ s with heap:=h',toks:=tk }) (n:="range_iterator") st' rfl rfl (by decide) ⟨.int (lo+i),H,I1,⟨t,?_⟩,⟨rfl,rfl⟩,st',fun b hb=>(hf b hb).1⟩⟩
  rw [Int.mul_one]
 done:=by
  intro X hP hw hK hc i pins s σ H E I hf st hg
  subst hP hw hK
  obtain ⟨f0,f1,f2,f3,f4,f5⟩:=hf it (by simp)
  exact wpAny_pyNext_range_end (I.ok.hd hc) st (by have:n<=i:=hg;omega) fun h' eb=>⟨rfl,I.turned (t':=s.toks) (fun b o hb e=>eb b o hb e) f0 f1 f3 f4 f5⟩
 self:=fun _ _ _ _ _ st h=>wpAny_pyIter_rangeiter st h
section
variable {X:Cx}{tg:Expr}
def Zpu (K:Qa)(tl:TE):TI:=fun σ H R=>tl σ H fun x H1=>∃ a,x=.ref a/\(∃ xs,SqL K H1 a xs)/\R (Itl K a) H1
def iTup (K:Qa)(tl:TE):TI:=fun σ H R=>tl σ H fun x H1=>∃ a,x=.ref a/\(∃ xs,SqT K H1 a xs)/\R (Itt K a) H1
theorem Zao {l:Expr}{tl:TE}(hl:PE X l tl):PI X tg l (Zpu X.K tl):=by
 intro pins s σ H R I h
 refine Zs (hl pins s σ H _ I h) fun v s1 ⟨x,H1,I1,r1,q1⟩=>?_
 obtain ⟨a,e,⟨xs,hq⟩,q⟩:=q1
 subst e
 cases r1
 obtain ⟨its,rv,p,hz⟩:=I1.list hq
 refine wpAny_pyIter_list p.isList ?_
 refine ⟨s1.heap.objs.size,[s1.heap.objs.size],_,_,H1,rfl,I1.kept (t':=s1.toks) fun b o e=>Qd _ e,Ziv a _,⟨_,Qs _ rfl,rfl,rfl⟩,fun b hb=>?_,q⟩
 have e:b=s1.heap.objs.size:=by simpa using hb
 subst e
 exact I1.fpOk (Qh _) (I1.hok.fresh (Qh _))
theorem ZhM {l:Expr}{tl:TE}(hl:PE X l tl):PI X tg l (iTup X.K tl):=by
 intro pins s σ H R I h
 refine Zs (hl pins s σ H _ I h) fun v s1 ⟨x,H1,I1,r1,q1⟩=>?_
 obtain ⟨a,e,⟨xs,hq⟩,q⟩:=q1
 subst e
 cases r1
 obtain ⟨its,rv,p,hz⟩:=I1.tuple hq
 refine Oy (show s1.heap.IsTuple a its.toArray from p) ?_
 refine ⟨s1.heap.objs.size,[s1.heap.objs.size],_,_,H1,rfl,I1.kept (t':=s1.toks) fun b o e=>Qd _ e,Zgu a _,⟨_,Qs _ rfl,rfl,rfl⟩,fun b hb=>?_,q⟩
 have e:b=s1.heap.objs.size:=by simpa using hb
 subst e
 exact I1.fpOk (Qh _) (I1.hok.fresh (Qh _))
theorem ZiD {pins:List (Addr×Obj)}{σ:St}{H:Hp}{s:Qe}{R:It->Hp->Prop}{E:Qb->Qe->Prop}{lo hi:Int}{t u v:Tok}{tk:Nat}(I:Inv X pins σ H s)(h1:-(2 ^ 62)<=lo)(h2:lo < 2 ^ 62)(h3:-(2 ^ 62)<=hi)(h4:hi < 2 ^ 62)
 (q:R (Itr lo (hi - lo).toNat) H):Qq (Qt X.prog X.w) X.A (pyIter (.ref s.heap.objs.size)) (PIE X pins σ tg R) E { s with heap:=s.heap.push { cls:=.type "range",data:=.fields #[.int lo t,.int hi u,.int 1 v] },toks:=tk }:=by
 refine wpAny_pyIter_range (IsRange.new ..) (small_one h1 h2 h3 h4) ?_
 have I1:Inv X pins σ H { s with heap:=s.heap.push { cls:=.type "range",data:=.fields #[.int lo t,.int hi u,.int 1 v] },toks:=tk }:=I.kept fun b o e=>Qd _ e
 refine ⟨(s.heap.push { cls:=.type "range",data:=.fields #[.int lo t,.int hi u,.int 1 v] }).objs.size,[(s.heap.push { cls:=.type "range",data:=.fields #[.int lo t,.int hi u,.int 1 v] }).objs.size],_,_,H,rfl,
  I1.kept (t':=tk) fun b o e=>Qd _ e,ZgS _ lo (hi - lo).toNat,?_,fun b hb=>?_,q⟩
 ·have e1:lo+((0:Nat):Int) * 1=lo:=by simp
  have e2:(((hi - lo).toNat:Nat):Int) - ((0:Nat):Int)=Builtin.Range.rangeSize lo hi 1:=by rw [rangeSize_one];split<;>omega
  show IsRangeIter _ _ (lo+((0:Nat):Int) * 1) ((((hi - lo).toNat:Nat):Int) - ((0:Nat):Int)) 1
  rw [e1,e2]
  exact Qs _ rfl
 ·have e:b=(s.heap.push { cls:=.type "range",data:=.fields #[.int lo t,.int hi u,.int 1 v] }).objs.size:=by simpa using hb
  subst e
  exact I1.fpOk (Qh _) (I1.hok.fresh (Qh _))
def Zov (ta:TA):TI:=fun σ H R=>ta σ H fun vs H1=>∃ j:Int,vs=[.int j]/\-(2 ^ 62)<=j/\j < 2 ^ 62/\R (Itr 0 j.toNat) H1
theorem Xx {a:Expr}{ta:TA}{p pos:Pos}(hg:Gl X "range")(hm:X.mg "range"=none)(ha:PA X [a] ta)(hs:QE [a] X.env=[(false,eval a X.env)]:=by rfl):PI X tg (.Call (.Name "range" p) [a] [] pos) (Zov ta):=by
 intro pins s σ H R I h
 refine Call_ (Ur I hg hm boot_range (Jw (Zs (ha pos pins s σ H _ I h) fun us s1 ⟨vs,H1,I1,r1,q1⟩=>?_) hs rfl))
 obtain ⟨j,e,q1,q2,q⟩:=q1
 subst e
 cases r1 with
 | cons r rr =>
  cases rr
  obtain ⟨t,rfl⟩:=r
  exact call_range_1 (ZiD I1 (by omega) (by omega) q1 q2 (by simpa using q))
def tFor (wi:TI)(g:TG)(tb:TS):TS:=fun D σ H=>wi σ H fun J H1=>∃ W:Nat->Nat->St->Hp->Prop,(∃ m,W 0 m σ H1)/\∀ i m σ H,W i m σ H ->
 (J.stop i H/\D.nx σ H)\/(J.go i H/\∃ N:St->Hp->Prop,(∀ σ' H',N σ' H'->∃ m',m' < m/\W (i+1) m' σ' H')/\∀ x H',J.yld i H x H'->g x σ H' fun σ2 H2=>tb { D with nx:=N,ct:=N,bk:=D.nx } σ2 H2)
def ZbD (fp:List Addr)(h:Heap):List (Addr×Obj):=fp.filterMap fun b=>(h.get? b).map fun o=>(b,o)
theorem XD {fp:List Addr}{h:Heap}{b:Addr}{o:Obj}(hb:b∈fp)(e:h.get? b=some o):(b,o)∈ZbD fp h:=mem_filterMap.mpr ⟨b,hb,by rw [e];rfl⟩
theorem Zhd {fp:List Addr}{h:Heap}{p:Addr×Obj}(hp:p∈ZbD fp h):p.1∈fp/\h.get? p.1=some p.2:=by
 obtain ⟨b,hb,e⟩:=mem_filterMap.mp hp
 cases q:h.get? b with
 | none=>rw [q] at e;cases e
 | some o =>
  rw [q] at e
  have e':(b,o)=p:=QG e
  subst e'
  exact ⟨hb,q⟩
theorem Inv.pinned {pins:List (Addr×Obj)}{σ:St}{H:Hp}{s:Qe}{fp:List Addr}(I:Inv X pins σ H s)(hf:∀ b∈fp,Wl X pins H b)(ho:∀ b∈fp,∃ o,s.heap.get? b=some o/\∀ v,o.data≠.cell v):Inv X (pins++ZbD fp s.heap) σ H s :=
 I.pins_of fun p hp=>(mem_append.mp hp).elim (fun z=>I.pin p (mem_append_right _ z)) fun z=>by
  obtain ⟨hb,e⟩:=Zhd z
  obtain ⟨f0,f1,f2,_⟩:=hf p.1 hb
  obtain ⟨o,e',d⟩:=ho p.1 hb
  rw [e] at e';cases e'
  exact ⟨e,f0,f1,f2,d⟩
theorem Inv.unpinned {pins pl:List (Addr×Obj)}{σ:St}{H:Hp}{s:Qe}(I:Inv X (pins++pl) σ H s):Inv X pins σ H s:=I.pins_of fun p hp=>I.pin p (mem_append_right _ (GV _ hp))
theorem WJ {iter:Expr}{body:List Stmt}{wi:TI}{g:TG}{tb:TS}{pos:Pos}(hp:PassesOwn (Qt X.prog X.w) X.A X.env X.xe)(hc:X.calm=true)(hi:PI X tg iter wi)(hg:PG X tg g)(hb:PSs X body tb)
 (hs:∀ x,GW iter X.env x=pure x:=by intro _;rfl):PS X (.For tg iter body [] pos) (tFor wi g tb):=by
 intro pins s σ H D I h
 refine wpAny_For (Zs (hi pins s σ H _ I h) fun v s1 h1=>Zs h1 fun itv s2 h2=>?_) hs
 obtain ⟨it,fp,tn,J,H2,e,I2,T,st2,f2,W,⟨m0,w0⟩,turn⟩:=h2
 subst e
 have stat:∀ {H':Hp},(∀ b∈fp,H' b=none)->∀ b∈fp,Wl X pins H' b:=fun hn b hb=>⟨hn b hb,(f2 b hb).2⟩
 refine codeAny_forLoop_any (fun n s'=>∃ i σ' H',Inv X pins σ' H' s'/\tn i s'.heap/\(∀ b∈fp,H' b=none)/\W i n σ' H') ?_ m0 ⟨0,σ,H2,I2,st2,fun b hb=>(f2 b hb).1,w0⟩
 rintro n s3 ⟨i,σ3,H3,I3,st3,fr3,w3⟩
 rcases turn i n σ3 H3 w3 with ⟨stop,qn⟩ | ⟨go,N,hN,step⟩
 ·refine GT hp (Zs (T.done X rfl rfl rfl hc i pins s3 σ3 H3 X.xe I3 (stat fr3) st3 stop) fun r s4 ⟨hr,I4⟩=>?_)
  subst hr
  exact PU ⟨σ3,H3,I4,qn⟩
 ·refine GT hp (Zs (T.item X rfl rfl rfl hc i pins s3 σ3 H3 X.xe I3 (stat fr3) st3 go) fun r s4 ⟨u,hr,h4⟩=>?_)
  subst hr
  refine GT hp (Zs h4 fun _ s5 ⟨x,H5,I5,r5,y5,st5,fr5⟩=>?_)
  have I5':=I5.pinned (stat fr5) (T.obj _ _ st5)
  refine GT hp (Zs (hg _ s5 σ3 H5 x u _ I5' r5 (step x H5 y5)) fun _ s6 ⟨σ6,H6,I6,q6⟩=>?_)
  refine GT hp (Zs (hb _ s6 σ6 H6 _ I6 q6) fun f s7 q7=>?_)
  have again:∀ {σ7:St} {H7:Hp},Inv X (pins++ZbD fp s5.heap) σ7 H7 s7->N σ7 H7->∃ m,m < n/\∃ i σ' H',Inv X pins σ' H' s7/\tn i s7.heap/\(∀ b∈fp,H' b=none)/\W i m σ' H':=fun {σ7 H7} I7 n7=>by
   obtain ⟨m',hm,w7⟩:=hN σ7 H7 n7
   refine ⟨m',hm,i+1,σ7,H7,I7.unpinned,T.keep _ _ _ st5 fun b hb o e=>(I7.pin (b,o) (mem_append_right _ (mem_append_right _ (XD hb e)))).1,fun b hb=>?_,w7⟩
   obtain ⟨o,e,d⟩:=T.obj _ _ st5 b hb
   exact (I7.pin (b,o) (mem_append_right _ (mem_append_right _ (XD hb e)))).2.1
  cases f with
  | next=>obtain ⟨σ7,H7,I7,n7⟩:=q7;exact again I7 n7
  | cont=>obtain ⟨σ7,H7,I7,n7⟩:=q7;exact again I7 n7
  | brk=>obtain ⟨σ7,H7,I7,q7⟩:=q7;exact ⟨σ7,H7,I7.unpinned,q7⟩
  | ret v=>obtain ⟨x7,σ7,H7,I7,r7,q7⟩:=q7;exact ⟨x7,σ7,H7,I7.unpinned,r7,q7⟩
end
theorem ZdO {K:Qa}{a:Addr}{xs:List V}{g:TG}{tb:TS}{D:YA}{σ:St}{H:Hp}(Pv:Nat->St->Hp->Prop)(h0:Pv 0 σ H)(hl:∀ i σ H,i<=xs.length->Pv i σ H->SqL K H a xs)
 (hs:∀ i x σ H,xs[i]?=some x->Pv i σ H->g x σ H fun σ2 H2=>tb { D with nx:=Pv (i+1),ct:=Pv (i+1),bk:=D.nx } σ2 H2) (hd:∀ σ H,Pv xs.length σ H->D.nx σ H) :
 ∃ W:Nat->Nat->St->Hp->Prop,(∃ m,W 0 m σ H)/\∀ i m σ H,W i m σ H ->
  ((Itl K a).stop i H/\D.nx σ H)\/((Itl K a).go i H/\∃ N:St->Hp->Prop,(∀ σ' H',N σ' H'->∃ m',m' < m/\W (i+1) m' σ' H')/\∀ x H',(Itl K a).yld i H x H'->g x σ H' fun σ2 H2=>tb { D with nx:=N,ct:=N,bk:=D.nx } σ2 H2):=by
 refine ⟨fun i m σ H=>m=xs.length - i/\i<=xs.length/\Pv i σ H,⟨xs.length,by simp,QC _,h0⟩,?_⟩
 rintro i m σ H ⟨rfl,hi,p⟩
 have q:=hl i σ H hi p
 by_cases hlt:i < xs.length
 ·refine .inr ⟨⟨xs,xs[i],q,by simp [hlt]⟩,Pv (i+1),fun σ' H' p'=>⟨xs.length - (i+1),by omega,rfl,hlt,p'⟩,fun x H' y=>?_⟩
  obtain ⟨e,y⟩:=y
  subst e
  exact hs i x σ _ (y xs q) p
 ·have e:i=xs.length:=by omega
  subst e
  exact .inl ⟨⟨xs,q,Qh _⟩,hd σ H p⟩
theorem Uy {lo:Int}{n:Nat}{g:TG}{tb:TS}{D:YA}{σ:St}{H:Hp}(Pv:Nat->St->Hp->Prop)(h0:Pv 0 σ H)
 (hs:∀ i σ H,i < n->Pv i σ H->g (.int (lo+i)) σ H fun σ2 H2=>tb { D with nx:=Pv (i+1),ct:=Pv (i+1),bk:=D.nx } σ2 H2) (hd:∀ σ H,Pv n σ H->D.nx σ H) :
 ∃ W:Nat->Nat->St->Hp->Prop,(∃ m,W 0 m σ H)/\∀ i m σ H,W i m σ H ->
  ((Itr lo n).stop i H/\D.nx σ H)\/((Itr lo n).go i H/\∃ N:St->Hp->Prop,(∀ σ' H',N σ' H'->∃ m',m' < m/\W (i+1) m' σ' H')/\∀ x H',(Itr lo n).yld i H x H'->g x σ H' fun σ2 H2=>tb { D with nx:=N,ct:=N,bk:=D.nx } σ2 H2):=by
 refine ⟨fun i m σ H=>m=n - i/\i<=n/\Pv i σ H,⟨n,by simp,QC _,h0⟩,?_⟩
 rintro i m σ H ⟨rfl,hi,p⟩
 by_cases hlt:i < n
 ·refine .inr ⟨hlt,Pv (i+1),fun σ' H' p'=>⟨n - (i+1),by omega,rfl,hlt,p'⟩,fun x H' y=>?_⟩
  obtain ⟨e,y⟩:=y
  subst e y
  exact hs i σ _ hlt p
 ·have e:i=n:=by omega
  subst e
  exact .inl ⟨Qh _,hd σ H p⟩
abbrev R2:=V->V->Hp->VK->Prop
def Xe (X:Cx)(f:Qb->Qb->Sem Qb)(r:R2):Prop :=
 ∀ (pins:List (Addr×Obj)) (s:Qe) (σ:St) (H:Hp) (x y:V) (v u:Qb) (Q:VK),Inv X pins σ H s->RelV x v->RelV y u->r x y H Q ->
  Qq (Qt X.prog X.w) X.A (f v u) (EP X pins σ Q) X.xe s
def UnR (X:Cx)(f:Qb->Sem Qb)(r:V->Hp->VK->Prop):Prop :=
 ∀ (pins:List (Addr×Obj)) (s:Qe) (σ:St) (H:Hp) (x:V) (v:Qb) (Q:VK),Inv X pins σ H s->RelV x v->r x H Q ->
  Qq (Qt X.prog X.w) X.A (f v) (EP X pins σ Q) X.xe s
def Yz (X:Cx)(f:Qb)(r:List V->Hp->VK->Prop):Prop :=
 ∀ (pins:List (Addr×Obj)) (s:Qe) (σ:St) (H:Hp) (xs:List V) (us:List Qb) (Q:VK),Inv X pins σ H s->Vals xs us->r xs H Q ->
  Qq (Qt X.prog X.w) X.A (call f us) (EP X pins σ Q) X.xe s
def TruR (X:Cx)(r:V->Hp->(Bool->Hp->Prop)->Prop):Prop :=
 ∀ (pins:List (Addr×Obj)) (s:Qe) (σ:St) (H:Hp) (x:V) (v:Qb) (Q:Bool->Hp->Prop),Inv X pins σ H s->RelV x v->r x H Q ->
  Qq (Qt X.prog X.w) X.A (truthy v) (TP X pins σ Q) X.xe s
def tOp (r:R2)(ta tb:TE):TE:=fun σ H Q=>ta σ H fun x H1=>tb σ H1 fun y H2=>r x y H2 Q
def tUn (r:V->Hp->VK->Prop)(ta:TE):TE:=fun σ H Q=>ta σ H fun x H1=>r x H1 Q
def rI (C:Int->Int->Prop)(g:Int->Int->V):R2:=fun x y H Q=>∃ i j,x=.int i/\y=.int j/\C i j/\Q (g i j) H
def rI0 (g:Int->Int->V):R2:=fun x y H Q=>∃ i j,x=.int i/\y=.int j/\Q (g i j) H
def rU (g:Int->V):V->Hp->VK->Prop:=fun x H Q=>∃ i,x=.int i/\Q (g i) H
section
variable {X:Cx}{a b c:Expr}{ta tb tc:TE}{pos:Pos}
theorem ZjH (ha:PE X a ta)(hb:PE X b tb){pins:List (Addr×Obj)}{s:Qe}{σ:St}{H:Hp}{R:V->V->Hp->Prop}(I:Inv X pins σ H s)
 (h:ta σ H fun x H1=>tb σ H1 fun y H2=>R x y H2) {Q:Qb->Qe->Prop} {f:Qb->Qb->Sem Qb}
 (hf:∀ v u s2 x y H2,Inv X pins σ H2 s2->RelV x v->RelV y u->R x y H2->Qq (Qt X.prog X.w) X.A (f v u) Q X.xe s2) :
 Qq (Qt X.prog X.w) X.A (eval a X.env) (fun v s₁=>Qq (Qt X.prog X.w) X.A (eval b X.env) (fun u s₂=>Qq (Qt X.prog X.w) X.A (f v u) Q X.xe s₂) X.xe s₁) X.xe s:=by
 refine Zs (ha pins s σ H _ I h) fun v s1 ⟨x,H1,I1,r1,q1⟩=>?_
 refine Zs (hb pins s1 σ H1 _ I1 q1) fun u s2 ⟨y,H2,I2,r2,q2⟩=>?_
 exact hf v u s2 x y H2 I2 r1 r2 q2
theorem Zx {op:Operator}{r:R2}(ho:Xe X (Jn op) r)(ha:PE X a ta)(hb:PE X b tb):PE X (.BinOp a op b pos) (tOp r ta tb):=by
 intro pins s σ H Q I h
 exact wpAny_BinOp (ZjH ha hb I h fun v u s2 x y H2 I2 rx ry q=>ho pins s2 σ H2 x y v u Q I2 rx ry q)
theorem Zdk {op:UnaryOp}{r:V->Hp->VK->Prop}(ho:UnR X (unaryOp op) r)(ha:PE X a ta):PE X (.UnaryOp op a pos) (tUn r ta):=by
 intro pins s σ H Q I h
 exact UnaryOp_ (Zs (ha pins s σ H _ I h) fun v s1 ⟨x,H1,I1,r1,q1⟩=>ho pins s1 σ H1 x v Q I1 r1 q1)
theorem opI {f:Qb->Qb->Sem Qb}{C:Int->Int->Prop}{g:Int->Int->Int}
 (rule:∀ (i j:Int) (t u:Tok) (s:Qe) (Q:Qb->Qe->Prop) (E:Qb->Qe->Prop),C i j->Q (.int (g i j) s.toks) { s with toks:=s.toks+1 }->Qq (Qt X.prog X.w) X.A (f (.int i t) (.int j u)) Q E s) :
 Xe X f (rI C fun i j=>.int (g i j)):=by
 intro pins s σ H x y v u Q I rx ry h
 obtain ⟨i,j,rfl,rfl,hc,q⟩:=h
 obtain ⟨t,rfl⟩:=rx
 obtain ⟨t',rfl⟩:=ry
 exact rule i j t t' s _ _ hc ⟨.int (g i j),H,I.tok _,⟨_,rfl⟩,q⟩
theorem opI0 {f:Qb->Qb->Sem Qb}{g:Int->Int->Int}
 (rule:∀ (i j:Int) (t u:Tok) (s:Qe) (Q:Qb->Qe->Prop) (E:Qb->Qe->Prop),Q (.int (g i j) s.toks) { s with toks:=s.toks+1 }->Qq (Qt X.prog X.w) X.A (f (.int i t) (.int j u)) Q E s) :
 Xe X f (rI0 fun i j=>.int (g i j)):=by
 intro pins s σ H x y v u Q I rx ry h
 obtain ⟨i,j,rfl,rfl,q⟩:=h
 obtain ⟨t,rfl⟩:=rx
 obtain ⟨t',rfl⟩:=ry
 exact rule i j t t' s _ _ ⟨.int (g i j),H,I.tok _,⟨_,rfl⟩,q⟩
theorem ZgN {f:Qb->Qb->Sem Qb}{g:Int->Int->Bool}
 (rule:∀ (i j:Int) (t u:Tok) (s:Qe) (Q:Qb->Qe->Prop) (E:Qb->Qe->Prop),Q (.bool (g i j)) s->Qq (Qt X.prog X.w) X.A (f (.int i t) (.int j u)) Q E s) :
 Xe X f (rI0 fun i j=>.bl (g i j)):=by
 intro pins s σ H x y v u Q I rx ry h
 obtain ⟨i,j,rfl,rfl,q⟩:=h
 obtain ⟨t,rfl⟩:=rx
 obtain ⟨t',rfl⟩:=ry
 exact rule i j t t' s _ _ ⟨.bl (g i j),H,I,rfl,q⟩
def CDiv (i j:Int):Prop:=0 < j/\j < 1073741824
def CPow (i j:Int):Prop:=0<=j/\j<=1000000/\i.natAbs < 2 ^ 64
def CMul (i j:Int):Prop:=(-(2 ^ 64) < i/\i < 2 ^ 64)\/(-(2 ^ 64) < j/\j < 2 ^ 64)
theorem CMul.ok {i j:Int}(h:CMul i j):IntMulOk i j:=by
 rcases h with ⟨h1,h2⟩ | ⟨h1,h2⟩
 ·exact .of_left (intBits_le_64 h1 h2)
 ·exact .of_right (intBits_le_64 h1 h2)
theorem YI:Xe X (Jn .Add) (rI0 fun i j=>.int (i+j)):=opI0 fun _ _ _ _ _ _ _ q=>add_int q
theorem Xt:Xe X (Jn .Sub) (rI0 fun i j=>.int (i - j)):=opI0 fun _ _ _ _ _ _ _ q=>sub_int q
theorem We:Xe X (Jn .Mult) (rI CMul fun i j=>.int (i * j)):=opI fun _ _ _ _ _ _ _ hc q=>mul_int q hc.ok
theorem ZfE:Xe X (Jn .FloorDiv) (rI CDiv fun i j=>.int (i / j)):=opI fun i j _ _ _ _ _ hc q=>by
 have h1:(0:Int) < j:=hc.1
 have h2:j < 1073741824:=hc.2
 exact floordiv_int (by omega) (by rw [JD i (by omega)];exact q) (.inl (SM (by omega)))
theorem XU:Xe X (Jn .Mod) (rI (fun _ j=>0 < j) fun i j=>.int (i % j)):=opI fun i j _ _ _ _ _ hc q=>by
 have h1:(0:Int) < j:=hc
 exact mod_int' (by omega) (by rw [Tu i (by omega)];exact q)
theorem ZbQ:Xe X (Jn .Pow) (rI CPow fun i j=>.int (i ^ j.toNat)):=opI fun _ _ _ _ _ _ _ hc q=>pow_int_small hc.1 hc.2.1 hc.2.2 q
theorem unI {f:Qb->Sem Qb}{g:Int->Int}
 (rule:∀ (i:Int) (t:Tok) (s:Qe) (Q:Qb->Qe->Prop) (E:Qb->Qe->Prop),Q (.int (g i) s.toks) { s with toks:=s.toks+1 }->Qq (Qt X.prog X.w) X.A (f (.int i t)) Q E s) :
 UnR X f (rU fun i=>.int (g i)):=by
 intro pins s σ H x v Q I rx h
 obtain ⟨i,rfl,q⟩:=h
 obtain ⟨t,rfl⟩:=rx
 exact rule i t s _ _ ⟨.int (g i),H,I.tok _,⟨_,rfl⟩,q⟩
theorem Zba:UnR X (unaryOp .USub) (rU fun i=>.int (-i)):=unI fun _ _ _ _ _ q=>neg_int q
end
def scal:V->V->Bool
 | .non,.non=>true | .non,.int _=>true | .int _,.non=>true | .non,.bl _=>true | .bl _,.non=>true | .non,.str _=>true | .str _,.non=>true
 | .int _,.int _=>true | .bl _,.bl _=>true | .str _,.str _=>true | .byt _,.byt _=>true
 | .int _,.str _=>true | .str _,.int _=>true | .bl _,.str _=>true | .str _,.bl _=>true
 | _,_=>false
def rEq:R2:=fun x y H Q=>scal x y=true/\Q (.bl (decide (x=y))) H
def rNe:R2:=fun x y H Q=>scal x y=true/\Q (.bl (!decide (x=y))) H
theorem Zfd {i j:Int}:decide (V.int i=V.int j)=(i == j):=by
 rw [PX]
 simp
theorem Zhv {i j:Bool}:decide (V.bl i=V.bl j)=(i == j):=by
 rw [PX]
 simp
theorem ZfF {i j:Str}:decide (V.str i=V.str j)=(i == j):=by
 rw [PX]
 simp
theorem Zfg {i j:Array UInt8}:decide (V.byt i=V.byt j)=(i.toList == j.toList):=by
 rw [PX]
 cases i
 cases j
 simp
section
variable {X:Cx}{a b c:Expr}{ta tb tc:TE}{pos:Pos}
theorem ZT {pins:List (Addr×Obj)}{σ:St}{H:Hp}{s:Qe}{Q:VK}{k k':Bool}(I:Inv X pins σ H s)(q:Q (.bl k) H)(e:k=k'):EP X pins σ Q (.bool k') s:=by
 subst e
 exact ⟨.bl k,H,I,rfl,q⟩
theorem Yx:Xe X (GL .Eq) rEq:=by
 intro pins s σ H x y v u Q I rx ry h
 obtain ⟨hs,q⟩:=h
 cases x with
 | non =>
  cases rx
  cases y with
  | non=>cases ry;exact PySem.EqNone.eq_none_none (ZT I q (by simp))
  | bl j=>cases ry;exact PySem.EqNone.eq_none_bool (ZT I q (by simp))
  | int j=>obtain ⟨t',rfl⟩:=ry;exact PySem.EqNone.eq_none_int (ZT I q (by simp))
  | str j=>obtain ⟨t',rfl⟩:=ry;exact PySem.EqNone.eq_none_str (ZT I q (by simp))
  | _=>exact absurd (show false=true from hs) QH
 | bl i =>
  cases rx
  cases y with
  | non=>cases ry;exact PySem.EqNone.eq_bool_none (ZT I q (by simp))
  | bl j=>cases ry;exact eq_bool (ZT I q Zhv)
  | str j=>obtain ⟨t',rfl⟩:=ry;exact PySem.EqMixed.eq_bool_str (ZT I q (by simp))
  | _=>exact absurd (show false=true from hs) QH
 | int i =>
  obtain ⟨t,rfl⟩:=rx
  cases y with
  | non=>cases ry;exact PySem.EqNone.eq_int_none (ZT I q (by simp))
  | int j=>obtain ⟨t',rfl⟩:=ry;exact eq_int (ZT I q Zfd)
  | str j=>obtain ⟨t',rfl⟩:=ry;exact PySem.EqMixed.eq_int_str (ZT I q (by simp))
  | _=>exact absurd (show false=true from hs) QH
 | str i =>
  obtain ⟨t,rfl⟩:=rx
  cases y with
  | non=>cases ry;exact PySem.EqNone.eq_str_none (ZT I q (by simp))
  | bl j=>cases ry;exact PySem.EqMixed.eq_str_bool (ZT I q (by simp))
  | int j=>obtain ⟨t',rfl⟩:=ry;exact PySem.EqMixed.eq_str_int (ZT I q (by simp))
  | str j=>obtain ⟨t',rfl⟩:=ry;exact eq_str (ZT I q ZfF)
  | _=>exact absurd (show false=true from hs) QH
 | byt i =>
  obtain ⟨t,rfl⟩:=rx
  cases y with
  | byt j=>obtain ⟨t',rfl⟩:=ry;exact PySem.W.eq_bytes (ZT I q Zfg)
  | _=>exact absurd (show false=true from hs) QH
 | _=>cases y<;>exact absurd (show false=true from hs) QH
theorem UC:Xe X (GL .NotEq) rNe:=by
 intro pins s σ H x y v u Q I rx ry h
 obtain ⟨hs,q⟩:=h
 cases x with
 | non =>
  cases rx
  cases y with
  | non=>cases ry;exact PySem.EqNone.ne_none_none (ZT I q (by simp))
  | bl j=>cases ry;exact PySem.EqNone.ne_none_bool (ZT I q (by simp))
  | int j=>obtain ⟨t',rfl⟩:=ry;exact PySem.EqNone.ne_none_int (ZT I q (by simp))
  | str j=>obtain ⟨t',rfl⟩:=ry;exact PySem.EqNone.ne_none_str (ZT I q (by simp))
  | _=>exact absurd (show false=true from hs) QH
 | bl i =>
  cases rx
  cases y with
  | non=>cases ry;exact PySem.EqNone.ne_bool_none (ZT I q (by simp))
  | bl j=>cases ry;exact ne_bool (ZT I q (congrArg not Zhv))
  | str j=>obtain ⟨t',rfl⟩:=ry;exact PySem.EqMixed.ne_bool_str (ZT I q (by simp))
  | _=>exact absurd (show false=true from hs) QH
 | int i =>
  obtain ⟨t,rfl⟩:=rx
  cases y with
  | non=>cases ry;exact PySem.EqNone.ne_int_none (ZT I q (by simp))
  | int j=>obtain ⟨t',rfl⟩:=ry;exact ne_int (ZT I q (congrArg not Zfd))
  | str j=>obtain ⟨t',rfl⟩:=ry;exact PySem.EqMixed.ne_int_str (ZT I q (by simp))
  | _=>exact absurd (show false=true from hs) QH
 | str i =>
  obtain ⟨t,rfl⟩:=rx
  cases y with
  | non=>cases ry;exact PySem.EqNone.ne_str_none (ZT I q (by simp))
  | bl j=>cases ry;exact PySem.EqMixed.ne_str_bool (ZT I q (by simp))
  | int j=>obtain ⟨t',rfl⟩:=ry;exact PySem.EqMixed.ne_str_int (ZT I q (by simp))
  | str j=>obtain ⟨t',rfl⟩:=ry;exact ne_str (ZT I q (congrArg not ZfF))
  | _=>exact absurd (show false=true from hs) QH
 | byt i =>
  obtain ⟨t,rfl⟩:=rx
  cases y with
  | byt j=>obtain ⟨t',rfl⟩:=ry;exact PySem.W.ne_bytes (ZT I q (congrArg not Zfg))
  | _=>exact absurd (show false=true from hs) QH
 | _=>cases y<;>exact absurd (show false=true from hs) QH
theorem Zbk:Xe X (GL .Lt) (rI0 fun i j=>.bl (decide (i < j))):=ZgN fun _ _ _ _ _ _ _ q=>lt_int q
theorem ZgU:Xe X (GL .LtE) (rI0 fun i j=>.bl (decide (i<=j))):=ZgN fun _ _ _ _ _ _ _ q=>le_int q
theorem Zpe:Xe X (GL .Gt) (rI0 fun i j=>.bl (decide (j < i))):=ZgN fun _ _ _ _ _ _ _ q=>gt_int q
theorem Zpc:Xe X (GL .GtE) (rI0 fun i j=>.bl (decide (j<=i))):=ZgN fun _ _ _ _ _ _ _ q=>ge_int q
theorem ZJ (b:Expr){op:CmpOp}(h:op≠.In:=by decide)(h2:op≠.NotIn:=by decide):Jp op b=false:=by
 have e1:(op == CmpOp.In)=false:=by cases op<;>first | rfl | exact absurd rfl h
 have e2:(op == CmpOp.NotIn)=false:=by cases op<;>first | rfl | exact absurd rfl h2
 cases b<;>simp [Jp,e1,e2]
theorem Wv {op:CmpOp}{r:R2}(ho:Xe X (GL op) r)(ha:PE X a ta)(hb:PE X b tb)(hm:Jp op b=false):PE X (.Compare a [op] [b] pos) (tOp r ta tb):=by
 intro pins s σ H Q I h
 exact wpAny_Compare1 (ZjH ha hb I h fun v u s2 x y H2 I2 rx ry q=>ho pins s2 σ H2 x y v u Q I2 rx ry q) hm
def ZgI (t:TE):TT:=fun σ H Q=>t σ H fun x H'=>∃ k,x=.bl k/\Q k H'
theorem ZL {op:CmpOp}{r:R2}(ho:Xe X (GL op) r)(ha:PE X a ta)(hb:PE X b tb)(hm:Jp op b=false):PT X (.Compare a [op] [b] pos) (ZgI (tOp r ta tb)):=by
 intro pins s σ H Q I h
 refine Rl (Zs (ha pins s σ H _ I h) fun v s1 ⟨x,H1,I1,r1,q1⟩=>Zs (hb pins s1 σ H1 _ I1 q1) fun u s2 ⟨y,H2,I2,r2,q2⟩ =>
  Zs (ho pins s2 σ H2 x y v u _ I2 r1 r2 q2) fun c s3 ⟨z,H3,I3,r3,k,e,q3⟩=>?_) hm
 subst e
 cases r3
 exact GC ⟨H3,I3,q3⟩
def ZmO (r r':R2)(ta tb tc:TE):TE:=fun σ H Q=>ta σ H fun x H1=>tb σ H1 fun y H2=>r x y H2 fun z H3=>∃ k,z=.bl k /\
 (if k=true then tc σ H3 fun w' H4=>r' y w' H4 Q else Q (.bl false) H3)
theorem ZaA {op op':CmpOp}{r r':R2}(ho:Xe X (GL op) r)(ho':Xe X (GL op') r')(ha:PE X a ta)(hb:PE X b tb)(hc:PE X c tc)
 (hm:lastMarks [op,op'] [b,c]=false:=by with_unfolding_all rfl):PT X (.Compare a [op,op'] [b,c] pos) (ZgI (ZmO r r' ta tb tc)):=by
 intro pins s σ H Q I h
 refine isTrue_chain (Zs (ha pins s σ H _ I h) fun v s1 ⟨x,H1,I1,r1,q1⟩=>test_link (Zs (hb pins s1 σ H1 _ I1 q1) fun u s2 ⟨y,H2,I2,r2,q2⟩ =>
  Zs (ho pins s2 σ H2 x y v u _ I2 r1 r2 q2) fun d s3 ⟨z,H3,I3,r3,k,e,q3⟩=>?_)) hm
 subst e
 cases r3
 refine GC ?_
 cases k with
 | false =>
  obtain ⟨k',e',q'⟩:=q3
  cases e'
  exact ite_ff ⟨H3,I3,q'⟩
 | true =>
  refine ite_tt (test_last (Zs (hc pins s3 σ H3 _ I3 q3) fun w' s4 ⟨z',H4,I4,r4,q4⟩=>Zs (ho' pins s4 σ H4 y z' u w' _ I4 r2 r4 q4) fun d' s5 ⟨z2,H5,I5,r5,k2,e2,q5⟩=>?_))
  subst e2
  cases r5
  exact GC ⟨H5,I5,q5⟩
def TruV (K:Qa)(x:V)(H:Hp)(k:Bool):Prop :=
 match x with
 | .non=>k=false
 | .bl b=>k=b
 | .int i=>k=(i != 0)
 | .str y=>y.length<=Qi/\k=((y.length:Int) != 0)
 | .byt y=>y.size<=Qi/\k=((y.size:Int) != 0)
 | .ref p=>(∃ xs,SqL K H p xs/\k=!xs.isEmpty)\/(∃ xs,SqT K H p xs/\k=!xs.isEmpty)\/∃ kvs,H p=some (.dK kvs)/\k=!kvs.isEmpty
 | _=>False
theorem ZgP {κ:Type}{kvs:List (κ×V)}{vs:List (κ×Qb)}(r:KV kvs vs):(!vs.isEmpty)=!kvs.isEmpty:=by
 cases r<;>rfl
theorem ZbK {xs:List V}{its:List Qb}(r:Vals xs its):(!its.toArray.isEmpty)=!xs.isEmpty:=by
 cases r<;>simp
theorem Uh:(Qi:Nat) < 2 ^ 63:=by rw [QU];decide
theorem Zoa:TruR X (fun x H Q=>∃ k,TruV X.K x H k/\Q k H):=by
 intro pins s σ H x v Q I rx h
 obtain ⟨k,e,q⟩:=h
 have hl:=Uh
 have hs:Qi=16777216:=QU
 cases x with
 | non =>
  cases rx
  have e':k=false:=e
  subst e'
  exact truthy_none ⟨H,I,q⟩
 | bl b =>
  cases rx
  have e':k=b:=e
  subst e'
  exact GC ⟨H,I,q⟩
 | int i =>
  obtain ⟨t,rfl⟩:=rx
  have e':k=(i != 0):=e
  subst e'
  exact PySem.P.truthy_int ⟨H,I,q⟩
 | str y =>
  obtain ⟨t,rfl⟩:=rx
  obtain ⟨hy,e'⟩:y.length<=Qi/\k=((y.length:Int) != 0):=e
  subst e'
  exact PySem.P.truthy_str (by omega) ⟨H,I.tok _,q⟩
 | byt y =>
  obtain ⟨t,rfl⟩:=rx
  obtain ⟨hy,e'⟩:y.size<=Qi/\k=((y.size:Int) != 0):=e
  subst e'
  exact PySem.W.truthy_bytes (by omega) ⟨H,I.tok _,q⟩
 | ref p =>
  cases rx
  have e':(∃ xs,SqL X.K H p xs/\k=!xs.isEmpty)\/(∃ xs,SqT X.K H p xs/\k=!xs.isEmpty)\/∃ kvs,H p=some (.dK kvs)/\k=!kvs.isEmpty:=e
  rcases e' with ⟨xs,hx,e'⟩ | ⟨xs,hx,e'⟩ | ⟨kvs,hx,e'⟩
  ·subst e'
   obtain ⟨its,r,pl,hz⟩:=I.list hx
   have hlen:=r.length
   exact wpAny_truthy_list pl.isList (by simp only [size_toArray];omega) ⟨H,I.tok _,by rw [ZbK r];exact q⟩
  ·subst e'
   obtain ⟨its,r,pl,hz⟩:=I.tuple hx
   have hlen:=r.length
   exact truthy_tuple pl (by simp only [size_toArray];omega) ⟨H,I.tok _,by rw [ZbK r];exact q⟩
  ·subst e'
   obtain ⟨hz,hS,vs,r,m⟩:kvs.length<=Qi/\(p == Jc)=false/\∃ vs,KV kvs vs/\s.heap.DictOf (ZN X.prog X.w) p vs:=I.hok p _ hx
   have hlen:kvs.length=vs.length:=Jb r
   exact wpAny_truthy_dict hS m (by omega) ⟨H,I.tok _,by rw [ZgP r];exact q⟩
 | _=>exact (show False from e).elim
theorem Ud (ha:PE X a ta)(he:∀ whole,isTrue a X.env whole=(do let v <- whole;TV a.pos;Pd [v] (truthy v))) :
 PT X a (fun σ H Q=>ta σ H fun x H'=>∃ k,TruV X.K x H' k/\Q k H'):=by
 intro pins s σ H Q I h
 exact isTrue_plain (Zs (ha pins s σ H _ I h) fun v s1 ⟨x,H1,I1,r1,q1⟩=>Zoa pins s1 σ H1 x v Q I1 r1 q1) (he _)
theorem Vh:Xe X (Jn .Add) (fun x y H Q=>∃ i j,x=.str i/\y=.str j/\i.length+j.length<=Qi/\Q (.str (i++j)) H):=by
 intro pins s σ H x y v u Q I rx ry h
 obtain ⟨i,j,rfl,rfl,hz,q⟩:=h
 obtain ⟨t,rfl⟩:=rx
 obtain ⟨t',rfl⟩:=ry
 exact add_str (fun t' tk=>⟨.str (i++j),H,I.tok _,⟨_,rfl⟩,q⟩) hz
theorem Yt {x:V}{us:List Qb}(r:Vals [x] us):∃ u,us=[u]/\RelV x u:=by
 cases r with
 | cons r1 r2=>cases r2;exact ⟨_,rfl,r1⟩
theorem Zdi {x y:V}{us:List Qb}(r:Vals [x,y] us):∃ u w',us=[u,w']/\RelV x u/\RelV y w':=by
 cases r with
 | cons r1 r2 =>
  cases r2 with
  | cons r3 r4=>cases r4;exact ⟨_,_,rfl,r1,r3⟩
theorem ZeF:Yz X (.builtin "abs") (fun xs H Q=>∃ i,xs=[.int i]/\Q (.int (if i < 0 then -i else i)) H):=by
 intro pins s σ H xs us Q I r h
 obtain ⟨i,rfl,q⟩:=h
 obtain ⟨u,rfl,t,rfl⟩:=Yt r
 exact call_abs_int fun u tk=>⟨.int (if i < 0 then -i else i),H,I.tok _,⟨_,rfl⟩,q⟩
theorem ZhD (hc:X.calm=true):Yz X (.builtin "min") (fun xs H Q=>∃ i j,xs=[.int i,.int j]/\Q (.int (if j < i then j else i)) H):=by
 intro pins s σ H xs us Q I r h
 obtain ⟨i,j,rfl,q⟩:=h
 obtain ⟨u,w',rfl,⟨t,rfl⟩,⟨t',rfl⟩⟩:=Zdi r
 refine min_two_ints (I.ok.hd hc) fun h' tk k=>⟨_,H,I.kept k,?_,q⟩
 by_cases hj:j < i
 ·rw [if_pos hj,if_pos hj];exact ⟨_,rfl⟩
 ·rw [if_neg hj,if_neg hj];exact ⟨_,rfl⟩
theorem ZhW:Yz X (.type "int") (fun xs H Q=>(∃ i,xs=[.int i]/\Q (.int i) H)\/∃ k,xs=[.bl k]/\Q (.int (if k then 1 else 0)) H):=by
 intro pins s σ H xs us Q I r h
 rcases h with ⟨i,rfl,q⟩ | ⟨k,rfl,q⟩
 ·obtain ⟨u,rfl,t,rfl⟩:=Yt r
  exact call_int_int ⟨.int i,H,I,⟨_,rfl⟩,q⟩
 ·obtain ⟨u,rfl,r1⟩:=Yt r
  cases r1
  exact call_int_bool ⟨.int (if k then 1 else 0),H,I.tok _,⟨_,rfl⟩,q⟩
theorem ZeE:Yz X (.type "str") (fun xs H Q=>∃ i,xs=[.int i]/\i.natAbs.log2 < 1920/\Q (.str (toString i)) H):=by
 intro pins s σ H xs us Q I r h
 obtain ⟨i,rfl,hz,q⟩:=h
 obtain ⟨u,rfl,t,rfl⟩:=Yt r
 exact PySem.P.str_of_int hz ⟨.str _,H,I.tok _,⟨_,rfl⟩,q⟩
theorem ZdE:Yz X (.builtin "ord") (fun xs H Q=>∃ x,xs=[.str x]/\x.length=1/\Q (.int (x.cps.getD 0 0:Nat)) H):=by
 intro pins s σ H xs us Q I r h
 obtain ⟨x,rfl,hz,q⟩:=h
 obtain ⟨u,rfl,t,rfl⟩:=Yt r
 exact ord_of_one hz ⟨.int _,H,I.tok _,⟨_,rfl⟩,q⟩
def Zje (K:Qa)(x:V)(H:Hp)(n:Nat):Prop :=
 match x with
 | .str y=>y.length<=Qi/\n=y.length
 | .byt y=>y.size<=Qi/\n=y.size
 | .ref p=>(∃ xs,SqL K H p xs/\n=xs.length)\/∃ xs,SqT K H p xs/\n=xs.length
 | _=>False
theorem ZjU:Yz X (.builtin "len") (fun xs H Q=>∃ x n,xs=[x]/\Zje X.K x H n/\Q (.int n) H):=by
 intro pins s σ H xs us Q I r h
 obtain ⟨x,n,rfl,e,q⟩:=h
 obtain ⟨u,rfl,rx⟩:=Yt r
 have hl:=Uh
 have hs:Qi=16777216:=QU
 cases x with
 | str y =>
  obtain ⟨t,rfl⟩:=rx
  obtain ⟨hy,e'⟩:y.length<=Qi/\n=y.length:=e
  subst e'
  exact len_str (by omega) ⟨.int _,H,I.tok _,⟨_,rfl⟩,q⟩
 | byt y =>
  obtain ⟨t,rfl⟩:=rx
  obtain ⟨hy,e'⟩:y.size<=Qi/\n=y.size:=e
  subst e'
  exact PySem.W.len_bytes (by omega) ⟨.int _,H,I.tok _,⟨_,rfl⟩,q⟩
 | ref p =>
  cases rx
  have e':(∃ xs,SqL X.K H p xs/\n=xs.length)\/∃ xs,SqT X.K H p xs/\n=xs.length:=e
  rcases e' with ⟨xs,hx,e'⟩ | ⟨xs,hx,e'⟩
  ·subst e'
   obtain ⟨its,r',pl,hz⟩:=I.list hx
   have hlen:=r'.length
   exact RX pl.isList (by simp only [size_toArray];omega) ⟨.int xs.length,H,I.tok _,⟨_,by simp only [size_toArray];rw [hlen]⟩,q⟩
  ·subst e'
   obtain ⟨its,r',pl,hz⟩:=I.tuple hx
   have hlen:=r'.length
   exact len_tuple pl (by simp only [size_toArray];omega) ⟨.int xs.length,H,I.tok _,⟨_,by simp only [size_toArray];rw [hlen]⟩,q⟩
 | _=>exact (show False from e).elim
theorem ZeN:Yz X (.builtin "divmod") (fun xs H Q=>∃ i j,xs=[.int i,.int j]/\CDiv i j/\∀ p,H p=none->Q (.ref p) (upd H p (.tup [.int (i / j),.int (i % j)]))):=by
 intro pins s σ H xs us Q I r h
 obtain ⟨i,j,rfl,⟨h1,h2⟩,q⟩:=h
 obtain ⟨u,w',rfl,⟨t,rfl⟩,⟨t',rfl⟩⟩:=Zdi r
 refine divmod_int (by omega) ?_ (.inl (SM (by omega)))
 rw [JD i (by omega),Tu i (by omega)]
 have hn:H s.heap.objs.size=none:=I.hok.fresh (Qh _)
 refine ⟨.ref s.heap.objs.size,_,?_,rfl,q _ hn⟩
 refine I.laid (fun b o e=>Qd _ e) (Qh _) ⟨by simp only [length_cons,PY];rw [QU];decide,[.int (i / j) s.toks,.int (i % j) (s.toks+1)],.cons ⟨_,rfl⟩ (.cons ⟨_,rfl⟩ .nil),?_⟩
 exact ⟨_,Qs s.heap rfl,rfl,0,rfl⟩
end
structure ObjM (h:Heap)(x dx C:Addr)(mA:Str->Option Qb):Prop where
 obj:h.get? x=some (GE C dx)
 ns:h.Ns1 dx mA
 ne:dx≠x
theorem ZhT {h:Heap}{dx:Addr}{mA:Str->Option Qb}(n:h.Ns1 dx mA):∃ od,h.get? dx=some od/\∀ name,Tv name od=some (mA name):=by
 obtain ⟨o,es,ep,ho,hd,hk,_,hm⟩:=n
 refine ⟨o,ho,fun name=>?_⟩
 have e:=hm name
 unfold nsFind findBy at e
 rw [<- Array.find?_toList] at e
 unfold Tv
 rw [hd]
 dsimp only
 split
 ·rename_i y q
  rw [q] at e
  exact congrArg some e
 ·rename_i q
  rw [q] at e
  have a:es.toList.any (·.refKey)=false:=by
   rw [List.any_eq_false]
   intro y hy
   obtain ⟨z,t,hkey⟩:=hk y (Array.mem_toList_iff.mp hy)
   simp [DictEntry.refKey,hkey]
  have a':¬ es.toList.any (·.refKey)=true:=by rw [a];exact QH
  rw [if_neg a']
  exact congrArg some e
theorem ObjM.look {h:Heap}{x dx C:Addr}{mA:Str->Option Qb}(I:ObjM h x dx C mA):∃ od,PySem.W.InstAt h x (GE C dx) C (some od)/\∀ name,Tv name od=some (mA name) :=
 let ⟨od,ho,hl⟩:=ZhT I.ns
 ⟨od,⟨I.obj,rfl,rfl,ho⟩,hl⟩
section
variable {prog:Qk}{w:Qv}{A:QF}{E:Qb->Qe->Prop}{s:Qe}{K:Qa}{x dx C f:Addr}{mA:Str->Option Qb}{name:Str}{v:Qb}
theorem Zlo {expr:Bool}{Q:Qb->Qe->Prop}(X:K.In s.heap)(I:ObjM s.heap x dx C mA)(hg:Pz K C name=true)(hh:TX K C=true)
 (ha:Qx K (.ref C) name=some none) (hv:mA name=some v) (hv':Nj v=true) (h:Q v { s with toks:=s.toks+1 }) :
 Qq (Qt prog w) A (getAttr (.ref x) name expr) Q E s:=by
 obtain ⟨od,J,hl⟩:=I.look
 exact PySem.W.get_value X J (Tf hg).1 (PySem.W.findObj_own hh ha rfl (by rw [hl,hv])) hv' h
theorem ZiM {pl:Sem Bool}{Q:Qb×List Qb->Qe->Prop}(X:K.In s.heap)(I:ObjM s.heap x dx C mA)(hg:Pz K C name=true)
 (hf:Qx K (.ref C) name=some (some (.ref f))) (ht:SN K (.ref f)=true) (hv:mA name=none) (h:Q (.ref f,[.ref x]) s) :
 Qq (Qt prog w) A (Tq (.ref x) name pl) Q E s:=by
 obtain ⟨od,J,hl⟩:=I.look
 exact PySem.W.method_fn X J (Tf hg).1 (Tf hg).2 hf (beq_iff_eq.mp ht) (by show (Tv name od).map (·.isSome)=some false;rw [hl,hv];rfl) h
theorem ZlR {ns:List Str}{Q:Unit->Qe->Prop}(X:K.In s.heap)(I:ObjM s.heap x dx C mA)
 (hs:Qx K (.ref C) "__setattr__"=some (some (.builtin "object.__setattr__"))) (hp:OO K C=true) (ht:Rb K C name=some none) (hh:TX K C=true)
 (hw:OJ mA ns) (hsz:ns.length<=Qi)
 (h:∀ h',ObjM h' x dx C (fun y=>if y=name then some v else mA y)->SK dx s.heap h'->Q () { s with heap:=h',toks:=s.toks+2 }) :
 Qq (Qt prog w) A (setAttr (.ref x) name v) Q E s:=by
 obtain ⟨od,J,hl⟩:=I.look
 refine PySem.W.set_plain X J hs (PySem.W.osa_open (s:={ s with toks:=s.toks+1 }) (r:=none) X J hp ht fun b=>?_)
 obtain ⟨cd,hc,hd'⟩:=PySem.W.any_some hh
 have hx:s.heap.get? x=some ⟨.ref C,some dx,.plain,#[]⟩:=I.obj
 refine Qg (Qp (Qg (Qg (wpAny_loadPart hx (Qg (PySem.W.Looks.here (s:={ s with toks:=s.toks+1 }) (PySem.W.looks_clsIn X hc) ?_))))))
 rw [hd']
 refine Qp (a:=some dx) (Qg (Qp (Qg ?_)))
 refine wpAny_nsSet1 (s:={ s with toks:=s.toks+1 }) I.ns fun h' hn2 hs2=>?_
 obtain ⟨oD,esD,epD,hoD,hdD,hcD⟩:=hn2.count (PySem.Within.cons name v hw)
 refine Qg (Nk hoD (by rw [hdD];exact Nl (Qn hcD (by rw [length_cons];omega))) ?_)
 exact Qp (h _ ⟨(hs2.2 _ (Gv I.ne)).trans I.obj,hn2,I.ne⟩ hs2)
theorem ZjQ {R:Oz->Qe->Prop}{vs:List Qb}{kw:List (Str×Qb)}(X:K.In s.heap)(hm:Rc K C=true)
 (hi:Qx K (.ref C) "__init__"=some (some (.ref f))) (hf:PySem.W.typeIn K (.ref f)=some (.type "function"))
 (h:JU (Qt prog w) (A.under (.builtin "type.__call__" ⟨.ref C::vs,kw⟩)) (.call (.ref f) ⟨.ref (s.heap.objs.size+1)::vs,kw⟩) (PySem.W.InitBack (s.heap.objs.size+1) R)
  {s with heap:=(s.heap.push Gk).push (GE C s.heap.objs.size) }) :
 JU (Qt prog w) A (.call (.ref C) ⟨vs,kw⟩) R s:=by
 obtain ⟨hh,g,d,t,os⟩:=s
 exact PySem.W.make_core (PySem.W.makes_of X hm) (QQ X hi) (fun self=>PySem.W.bind_fn X self hf) (.inl rfl) h
end
def Xo (f:Str)(v:V):List (Str×V)->List (Str×V)
 | []=>[(f,v)]
 | (g,x)::r=>if g=f then (g,v)::r else (g,x)::Xo f v r
theorem YY (f g:Str)(v:V):∀ fs:List (Str×V),(Xo f v fs).lookup g=if g=f then some v else fs.lookup g
 | []=>by
  show GB g [(f,v)]=_
  by_cases h:g=f
  ·have hb:(g == f)=true:=beq_iff_eq.mpr h
   simp only [GB,hb,if_pos h]
  ·have hb:(g == f)=false:=beq_eq_false_iff_ne.mpr h
   simp only [GB,hb,if_neg h]
 | (k, x)::r=>by
  have ih:=YY f g v r
  rw [show Xo f v ((k,x)::r)=(if k=f then (k,v)::r else (k,x)::Xo f v r) from rfl]
  by_cases hk:k=f
  ·rw [if_pos hk]
   by_cases h:g=k
   ·have hb:(g == k)=true:=beq_iff_eq.mpr h
    simp only [GB,hb,if_pos (h.trans hk)]
   ·have hb:(g == k)=false:=beq_eq_false_iff_ne.mpr h
    simp only [GB,hb,if_neg (fun e:g=f=>h (e.trans hk.symm))]
  ·rw [if_neg hk]
   by_cases h:g=k
   ·have hb:(g == k)=true:=beq_iff_eq.mpr h
    simp only [GB,hb,if_neg (fun e:g=f=>hk (h.symm.trans e))]
   ·have hb:(g == k)=false:=beq_eq_false_iff_ne.mpr h
    simp only [GB,hb]
    exact ih
theorem VU (f:Str)(v:V):∀ fs:List (Str×V),f∈(Xo f v fs).map (·.1)/\∀ g,g∈fs.map (·.1)->g∈(Xo f v fs).map (·.1)
 | []=>⟨by simp [Xo],fun g h=>by simp at h⟩
 | (k, x)::r=>by
  obtain ⟨i1,i2⟩:=VU f v r
  rw [show Xo f v ((k,x)::r)=(if k=f then (k,v)::r else (k,x)::Xo f v r) from rfl]
  by_cases hk:k=f
  ·rw [if_pos hk]
   subst hk
   exact ⟨by simp,fun g h=>by simpa using h⟩
  ·rw [if_neg hk]
   refine ⟨?_,fun g h=>?_⟩
   ·rw [map_cons]
    exact mem_cons_of_mem _ i1
   ·rw [map_cons] at h ⊢
    rcases mem_cons.mp h with e | e
    ·exact mem_cons.mpr (.inl e)
    ·exact mem_cons_of_mem _ (i2 g e)
theorem Zax (f:Str)(v:V):∀ fs:List (Str×V),(Xo f v fs).length<=fs.length+1
 | []=>by simp [Xo]
 | (k,x)::r=>by
  have ih:=Zax f v r
  rw [show Xo f v ((k,x)::r)=(if k=f then (k,v)::r else (k,x)::Xo f v r) from rfl]
  by_cases hk:k=f
  ·rw [if_pos hk,length_cons,length_cons];omega
  ·rw [if_neg hk,length_cons,length_cons];omega
theorem RelO.some_of {v:V}{o:Option Qb}(r:RelO (some v) o):∃ u,o=some u/\RelV v u:=by
 cases o with
 | none=>exact (show False from r).elim
 | some u=>exact ⟨u,rfl,r⟩
theorem RelO.none_of {o:Option Qb}(r:RelO none o):o=none:=by
 cases o with
 | none=>rfl
 | some u=>exact (show False from r).elim
theorem ZcA {v:V}{u:Qb}(r:RelV v u):Nj u=true:=by
 cases v with
 | non=>cases (show u=QX from r);rfl
 | bl b=>cases (show u=GM b from r);rfl
 | int i=>obtain ⟨t,e⟩:=(show ∃ t,u=RN i t from r);cases e;rfl
 | str x=>obtain ⟨t,e⟩:=(show ∃ t,u=Tn x t from r);cases e;rfl
 | byt b=>obtain ⟨t,e⟩:=(show ∃ t,u=Value.bytes b t from r);cases e;rfl
 | flt b=>obtain ⟨t,e⟩:=(show ∃ t,u=NG b t from r);cases e;rfl
 | ref a=>cases (show u=Qo a from r);rfl
 | ty n=>cases (show u=Ou n from r);rfl
section
variable {P:Qk}{w:Qv}{H H':Hp}{h h':Heap}{a C dx:Addr}{fs fs':List (Str×V)}
theorem Zad (hok:HOk P w H h)(e:H a=some (.ins C dx fs)):∃ mA,ObjM h a dx C mA/\(∀ f,RelO (fs.lookup f) (mA f))/\OJ mA (fs.map (·.1))/\fs.length<=1000/\H dx=some (.own a):=by
 obtain ⟨d,z,ne,ob,mA,n,r,q⟩:=(show ObjOk P w H h a (.ins C dx fs) from hok a _ e)
 exact ⟨mA,⟨ob,n,ne⟩,r,q,z,d⟩
end
structure Cls (K:Qa)(C:Addr):Prop where
 pg:Pz K C Str.empty=true
 hd:TX K C=true
 po:OO K C=true
 sa:Qx K (.ref C) "__setattr__"=some (some (.builtin "object.__setattr__"))
theorem Cls.get {K:Qa}{C:Addr}(c:Cls K C)(f:Str):Pz K C f=true:=c.pg
def NoAttr (K:Qa)(C:Addr)(f:Str):Prop:=Qx K (.ref C) f=some none
theorem NoAttr.taker {K:Qa}{C:Addr}{f:Str}(n:NoAttr K C f):Rb K C f=some none:=by
 unfold Rb
 rw [show Qx K (.ref C) f=some none from n]
 rfl
structure VR (K:Qa)(C:Addr)(m:Str)(f:Addr):Prop where
 at_:Qx K (.ref C) m=some (some (.ref f))
 fn:SN K (.ref f)=true
 kp:GO K (.ref f)=true
section
variable {X:Cx}{pins:List (Addr×Obj)}{σ:St}{H:Hp}{s:Qe}{a C dx:Addr}{fs:List (Str×V)}{f:Str}{v:V}{A:QF}{E:Qb->Qe->Prop}
theorem ZgF {b:Bool}{Q:Qb->Qe->Prop}(I:Inv X pins σ H s)(e:H a=some (.ins C dx fs))(c:Cls X.K C)(n:NoAttr X.K C f)(l:fs.lookup f=some v)
 (h:∀ u s',Inv X pins σ H s'->RelV v u->Q u s'):Qq (Qt X.prog X.w) A (getAttr (.ref a) f b) Q E s:=by
 obtain ⟨mA,O,r,_,_,_⟩:=Zad I.hok e
 obtain ⟨u,hu,ru⟩:=RelO.some_of (v:=v) (o:=mA f) (by rw [<- l];exact r f)
 exact Zlo I.kIn O (c.get f) c.hd n hu (ZcA ru) (h u _ (I.tok _) ru)
theorem Vs {m:Str}{g:Addr}{pl:Sem Bool}{Q:Qb×List Qb->Qe->Prop}(I:Inv X pins σ H s)(e:H a=some (.ins C dx fs))(c:Cls X.K C)(k:VR X.K C m g)(l:fs.lookup m=none)
 (h:Q (.ref g,[.ref a]) s):Qq (Qt X.prog X.w) A (Tq (.ref a) m pl) Q E s:=by
 obtain ⟨mA,O,r,_,_,_⟩:=Zad I.hok e
 have hn:mA m=none:=RelO.none_of (by rw [<- l];exact r m)
 exact ZiM I.kIn O (c.get m) k.at_ k.fn hn h
theorem Zgk {y:V}{u:Qb}{Q:Unit->Qe->Prop}(I:Inv X pins σ H s)(e:H a=some (.ins C dx fs))(c:Cls X.K C)(n:NoAttr X.K C f)(hl:fs.length < 1000)(ry:RelV y u)
 (h:∀ s',Inv X pins σ (upd H a (.ins C dx (Xo f y fs))) s'->Q () s'):Qq (Qt X.prog X.w) A (setAttr (.ref a) f u) Q E s:=by
 obtain ⟨mA,O,r,wi,_,ho⟩:=Zad I.hok e
 have hz:(fs.map (·.1)).length<=sizeLine:=by rw [length_map,QU];omega
 refine ZlR I.kIn O c.sa c.po n.taker c.hd wi hz fun h' O' sb=>h _ ?_
 have hd:∃ o,h'.get? dx=some o:=let ⟨o,_,_,e',_⟩:=O'.ns;⟨o,e'⟩
 refine I.write (x:=a) (e:=dx) (by rw [e];exact Gw) (.inr ho) (fun b q hb z=>(sb.2 b hb).trans z) hd ?_
 refine ⟨by rw [Zg O.ne];exact ho,?_,O.ne,O'.obj,_,O'.ns,fun g=>?_,fun g hg=>?_⟩
 ·have:=Zax f y fs;omega
 ·show RelO ((Xo f y fs).lookup g) (if g=f then some u else mA g)
  rw [YY]
  by_cases q:g=f
  ·rw [if_pos q,if_pos q];exact ry
  ·rw [if_neg q,if_neg q];exact r g
 ·by_cases q:g=f
  ·rw [q];exact (VU f y fs).1
  ·refine (VU f y fs).2 g (wi g fun z=>hg ?_)
   show (if g=f then some u else mA g)=none
   rw [if_neg q];exact z
theorem Inv.made (I:Inv X pins σ H s):Inv X pins σ (upd (upd H s.heap.objs.size (.own (s.heap.objs.size+1))) (s.heap.objs.size+1) (.ins C s.heap.objs.size []))
 {s with heap:=(s.heap.push Gk).push (GE C s.heap.objs.size) }:=by
 have e1:(s.heap.push Gk).get? s.heap.objs.size=some PySem.W.emptyDict:=Qs s.heap rfl
 have e2:((s.heap.push Gk).push (GE C s.heap.objs.size)).get? (s.heap.objs.size+1)=some (GE C s.heap.objs.size):=by
  have:=Qs (s.heap.push Gk) (o:=GE C s.heap.objs.size) rfl
  rwa [JE] at this
 have e3:(s.heap.push Gk).Ns s.heap.objs.size (fun _=>none):=⟨Gk,#[],_,e1,rfl,(fun e he=>absurd he (by simp)),fun _=>rfl⟩
 have I1:=I.laid (a:=s.heap.objs.size) (o:=.own (s.heap.objs.size+1)) (h':=s.heap.push Gk) (t':=s.toks) (fun b u q=>Qd _ q) (Qh _) ⟨_,e1⟩
 refine I1.laid (a:=s.heap.objs.size+1) (o:=.ins C s.heap.objs.size []) (t':=s.toks) (fun b u q=>Qd _ q) (JK (JE _ _)) ?_
 have ne:s.heap.objs.size≠s.heap.objs.size+1:=Qw (So _)
 refine ⟨by rw [Zg ne,Zf],QC _,ne,e2,fun _=>none,(OP e3).at fun o q=>Qd _ q,fun _=>Gw,fun y hy=>absurd rfl hy⟩
theorem Zfz {prog:Qk}{w:Qv}{env:Env}{e:Expr}{f:Str}{pos:Pos}{s:Qe}{Q:Qb->Qe->Prop}(hb:Jq e f env (eval e env)=eval e env)
 (h:Qq (Qt prog w) A (eval e env) (fun o s₁=>Qq (Qt prog w) A (getAttr o f true) Q E s₁) E s):Qq (Qt prog w) A (eval (.Attribute e f pos) env) Q E s :=
 Attribute_any_ h (by rw [arm_eval_Attribute,hb])
end
def tFld (K:Qa)(ta:TE)(f:Str):TE:=fun σ H Q=>ta σ H fun x H1=>∃ a C dx fs v,x=.ref a/\H1 a=some (.ins C dx fs)/\Cls K C/\NoAttr K C f/\fs.lookup f=some v/\Q v H1
def sFld (K:Qa)(ta tv:TE)(f:Str):TS:=fun D σ H=>tv σ H fun y H1=>ta σ H1 fun x H2=>∃ a C dx fs,x=.ref a/\H2 a=some (.ins C dx fs)/\Cls K C/\NoAttr K C f/\fs.length < 1000 /\
 D.nx σ (upd H2 a (.ins C dx (Xo f y fs)))
section
variable {X:Cx}{o e value:Expr}{f:Str}{pos pos' tpos:Pos}{ta tv:TE}
theorem Zu (he:PE X e ta)(hb:Jq e f X.env (eval e X.env)=eval e X.env):PE X (.Attribute e f pos) (tFld X.K ta f):=by
 intro pins s σ H Q I h
 refine Zfz hb (Zs (he pins s σ H _ I h) fun u s1 ⟨x,H1,I1,rx,a,C,dx,fs,v,ex,ea,c,n,l,q⟩=>?_)
 subst ex
 obtain rfl:u=Qo a:=rx
 exact ZgF I1 ea c n l fun u' s2 I2 ru=>⟨v,H1,I2,ru,q⟩
theorem YW (ha:PE X o ta)(hv:PE X value tv)(hs:To value (some (.Attribute o f pos')) pos.line X.env=pure false):PS X (.Assign [.Attribute o f pos'] value pos) (sFld X.K ta tv f):=by
 intro pins s σ H D I h
 refine Ps (Zs (hv pins s σ H _ I h) fun u s1 ⟨y,H1,I1,ry,q⟩=>Zs (ha pins s1 σ H1 _ I1 q) fun ov s2 ⟨x,H2,I2,rx,a,C,dx,fs,ex,ea,c,n,l,q2⟩=>?_) hs
 subst ex
 obtain rfl:ov=Qo a:=rx
 exact Zgk I2 ea c n l ry fun s3 I3=>⟨σ,_,I3,q2⟩
end
section
variable {X:Cx}{pins:List (Addr×Obj)}{σ:St}{H:Hp}{s:Qe}{A:QF}{E:Qb->Qe->Prop}{Q:Qb->Qe->Prop}{c:Qb}{b:Bool}
inductive WD (K:Qa)(H:Hp):V->Qb->Prop where
 | non:WD K H .non (.type "NoneType")
 | bl (x:Bool):WD K H (.bl x) (.type "bool")
 | int (i:Int):WD K H (.int i) (.type "int")
 | str (x:Str):WD K H (.str x) (.type "str")
 | flt (x:UInt64):WD K H (.flt x) (.type "float")
 | lst {a:Addr} {xs:List V} (e:H a=some (.lst xs)):WD K H (.ref a) (.type "list")
 | frz {a:Addr} {o:Obj} {xs:List V} (e:H a=some (.frz o (.lst xs))):WD K H (.ref a) (.type "list")
 | tup {a:Addr} {xs:List V} (e:H a=some (.tup xs)):WD K H (.ref a) (.type "tuple")
 | dK {a:Addr} {kvs:List (Zn×V)} (e:H a=some (.dK kvs)):WD K H (.ref a) (.type "dict")
 | dT {a:Addr} {kvs:List (List Zn×V)} (e:H a=some (.dT kvs)):WD K H (.ref a) (.type "dict")
 | ins {a C dx:Addr} {fs:List (Str×V)} (e:H a=some (.ins C dx fs)) (cl:Cls K C) (ha:Qx K (.ref C) "__class__"=some (some (.builtin "object.__class__")))
     (hn:PySem.W.specialIn K (.builtin "object.__class__") "__get__"=some (some (.builtin "getset_descriptor.__get__"))) (htk:PySem.W.takesIn K (.builtin "object.__class__")=some true)
     (hm:PySem.W.mroIn K C (.type "object")=some true):WD K H (.ref a) (.ref C)
theorem Zhb {x:V}{u t:Qb}(I:Inv X pins σ H s)(rx:RelV x u)(ty:WD X.K H x t)(e:Tw X.K t c=some b)(h:∀ tk,Q (.bool b) { s with toks:=tk }) :
 Qq (Qt X.prog X.w) A (call (.builtin "isinstance") [u,c]) Q E s:=by
 cases ty with
 | non=>cases (show u=QX from rx);exact QW PySem.W.kitx_none I.kIn Gw e (fun z=>nomatch z) h
 | bl y=>cases (show u=GM y from rx);exact QW PySem.W.kitx_bool I.kIn Gw e (fun z=>nomatch z) h
 | int i=>obtain ⟨t,q⟩:=(show ∃ t,u=RN i t from rx);cases q;exact QW PySem.W.kitx_int I.kIn Gw e (fun z=>nomatch z) h
 | str y=>obtain ⟨t,q⟩:=(show ∃ t,u=Tn y t from rx);cases q;exact QW PySem.W.kitx_str I.kIn Gw e (fun z=>nomatch z) h
 | flt y=>obtain ⟨t,q⟩:=(show ∃ t,u=NG y t from rx);cases q;exact QW PySem.W.kitx_float I.kIn Gw e (fun z=>nomatch z) h
 | @lst a xs ea =>
  cases (show u=Qo a from rx)
  obtain ⟨_,_,n,_,h1⟩:=(show ObjOk X.prog X.w H s.heap a (.lst xs) from I.hok a _ ea)
  exact QW OQ I.kIn ⟨_,h1,rfl⟩ e (fun z=>nomatch z) h
 | @frz a ob xs ea =>
  cases (show u=Qo a from rx)
  obtain ⟨_,_,_,n,_,h1⟩:=(show ObjOk X.prog X.w H s.heap a (.frz ob (.lst xs)) from I.hok a _ ea)
  exact QW OQ I.kIn ⟨_,h1,rfl⟩ e (fun z=>nomatch z) h
 | @tup a xs ea =>
  cases (show u=Qo a from rx)
  obtain ⟨_,_,_,p⟩:=(show ObjOk X.prog X.w H s.heap a (.tup xs) from I.hok a _ ea)
  obtain ⟨o,h1,h2,_⟩:=p
  exact QW PySem.W.kitx_tuple I.kIn ⟨o,h1,h2⟩ e (fun z=>nomatch z) h
 | @dK a kvs ea =>
  cases (show u=Qo a from rx)
  obtain ⟨_,_,vs,_,p⟩:=(show ObjOk X.prog X.w H s.heap a (.dK kvs) from I.hok a _ ea)
  obtain ⟨o,es,ep,h1,h2,_⟩:=p
  exact QW OR I.kIn ⟨o,h1,h2.1⟩ e (fun z=>nomatch z) h
 | @dT a kvs ea =>
  cases (show u=Qo a from rx)
  obtain ⟨_,_,xs,_,o,es,ep,h1,h2,_⟩:=(show ObjOk X.prog X.w H s.heap a (.dT kvs) from I.hok a _ ea)
  exact QW OR I.kIn ⟨o,h1,h2.1⟩ e (fun z=>nomatch z) h
 | @ins a C dx fs ea cl ha hn htk hm =>
  cases (show u=Qo a from rx)
  obtain ⟨mA,O,_⟩:=Zad I.hok ea
  obtain ⟨od,J,_⟩:=O.look
  exact QW (PySem.W.kitx_own (cl.get _) cl.hd ha hn htk hm) I.kIn J e (fun z=>nomatch z) h
end
structure Room (k:Nat)(A:QF):Prop where
 hd:A.handled=none
 dp:A.depth+3 * k+5 < Ru
 un:A.units+16 * k+200 < Re
 gd:A.guards=some []
theorem Room.mono {j k:Nat}{A:QF}(r:Room k A)(h:j<=k):Room j A:=⟨r.hd,by have:=r.dp;omega,by have:=r.un;omega,r.gd⟩
theorem Room.deeper {k:Nat}{A:QF}(r:Room (k+1) A)(env:Env):Room k (A.deeper env) :=
 ⟨r.hd,by have:=r.dp;show A.depth+1+3 * k+5 < _;omega,by have:=r.un;show A.units+3+16 * k+200 < _;omega,r.gd⟩
theorem Zgp {A:QF}{C:Addr}{us:List Qb}{kw:List (Str×Qb)}:(A.under (.builtin "type.__call__" ⟨.ref C::us,kw⟩)).depth=A.depth+1:=by
 first | rfl | simp [SO,Code.weight,Code.isCreation,Code.isGuard,Code.isCaller,Code.frames,OS,guardIds]
theorem ZgK {A:QF}{C:Addr}{us:List Qb}{kw:List (Str×Qb)}:(A.under (.builtin "type.__call__" ⟨.ref C::us,kw⟩)).units=A.units+1:=by
 first | rfl | simp [SO,Code.cUnits,Code.frames,OS]
theorem Room.make {k:Nat}{A:QF}(r:Room (k+1) A)(C:Addr)(us:List Qb)(kw:List (Str×Qb)):Room k (A.under (.builtin "type.__call__" ⟨.ref C::us,kw⟩)) :=
 ⟨r.hd,by have:=r.dp;rw [Zgp];omega,by have:=r.un;rw [ZgK];omega,by first | exact r.gd | simpa [SO,Code.isGuard,guardIds] using r.gd⟩
theorem Room.depth {k:Nat}{A:QF}(r:Room k A):A.depth < recursionLimit:=by have:=r.dp;omega
theorem Room.units {k:Nat}{A:QF}(r:Room k A):A.units+64 < cLine:=by have:=r.un;omega
def WP:TA:=fun _ H Q=>Q [] H
def XZ (ta:TE)(tr:TA):TA:=fun σ H Q=>ta σ H fun x H1=>tr σ H1 fun xs H2=>Q (x::xs) H2
section
variable {X:Cx}{e:Expr}{es:List Expr}{te:TE}{t:TA}{pos:Pos}
theorem Za:PA X [] WP:=fun _ _ _ _ H Q I h=>TY ⟨[],H,I,.nil,h⟩
theorem Yv (ha:PE X e te)(hr:PA X es t)(hs:QE (e::es) X.env=(false,eval e X.env)::QE es X.env:=by rfl):PA X (e::es) (XZ te t):=by
 intro pos pins s σ H Q I h
 rw [hs]
 show Qq _ _ (spliced ((false,eval e X.env)::Jg pos (QE es X.env))) _ _ s
 refine Tx (Zs (ha pins s σ H _ I h) fun u s1 ⟨x,H1,I1,r1,q1⟩=>?_)
 exact Zs (hr pos pins s1 σ H1 _ I1 q1) fun us s2 ⟨xs,H2,I2,r2,q2⟩=>⟨x::xs,H2,I2,.cons r1 r2,q2⟩
def tTup (t:TA):TE:=fun σ H Q=>t σ H fun xs H1=>xs.length<=Qi/\∀ p,H1 p=none->Q (.ref p) (upd H1 p (.tup xs))
def tLst (t:TA):TE:=fun σ H Q=>t σ H fun xs H1=>xs.length<=Qi/\∀ p,H1 p=none->Q (.ref p) (upd H1 p (.lst xs))
theorem Yi {x1}(h:PA X es t):PE X (.Tuple es x1 pos) (tTup t):=by
 intro pins s σ H Q I hq
 refine RY (Zs (h pos pins s σ H _ I hq) fun us s1 ⟨xs,H1,I1,r,z,q⟩=>⟨by rw [<- r.length];exact z,?_⟩)
 have hf:H1 s1.heap.objs.size=none:=I1.hok.fresh (Qh _)
 refine ⟨.ref s1.heap.objs.size,upd H1 s1.heap.objs.size (.tup xs),I1.laid (t':=s1.toks) (fun b u e=>Qd _ e) (Qh _) ?_,rfl,q _ hf⟩
 exact ⟨z,us,r,⟨_,Qs _ rfl,rfl,_,rfl⟩⟩
theorem ZX (h:PA X es t):PE X (.List es pos) (tLst t):=by
 intro pins s σ H Q I hq
 refine wpAny_List_spliced (Zs (h pos pins s σ H _ I hq) fun us s1 ⟨xs,H1,I1,r,z,q⟩=>⟨by rw [<- r.length];exact z,?_⟩)
 have hf:H1 s1.heap.objs.size=none:=I1.hok.fresh (Qh _)
 refine ⟨.ref s1.heap.objs.size,upd H1 s1.heap.objs.size (.lst xs),I1.laid (t':=s1.toks) (fun b u e=>Qd _ e) (Qh _) ?_,rfl,q _ hf⟩
 exact ⟨z,us,0,r,Qs _ rfl⟩
end
abbrev Sp:=List V->Hp->VK->XK->Prop
abbrev Ux:=List Env->Hp->Qe->XK->Qb->Qe->Prop
structure Env0 (P:Qk)(w:Qv)(K:Qa)(mg:Str->Option Qb)(base:Heap)(A:QF)(outer:List Env)(s:Qe)(H:Hp):Prop where
 frames:A.frames=some outer
 mod:Mod K mg base
 bs:∀ b o,base.get? b=some o->s.heap.get? b=some o/\H b=none
 bsz:base.objs.size<=s.heap.objs.size
 funs:s.heap.FunFrames base outer
 frf:∀ b∈YM outer,H b=none
 hok:HOk P w H s.heap
 bare:Tj s.gens
def CE (outer:List Env)(P:Qk)(w:Qv)(H:Hp)(s:Qe)(Q:VK)(u:Qb)(s':Qe):Prop :=
 ∃ v H',s'.os=s.os/\Tj s'.gens/\Un (YM outer) [] H H' s.heap s'.heap/\HOk P w H' s'.heap/\RelV v u/\Q v H'
def CR (CX:Ux)(outer:List Env)(P:Qk)(w:Qv)(H:Hp)(s:Qe)(Q:VK)(E:XK)(r:Oz)(s':Qe):Prop :=
 match r with
 | .ok (.ret u)=>CE outer P w H s Q u s'
 | .ok _=>False
 | .error e=>CX outer H s E e s'
structure FnOk (P:Qk)(w:Qv)(K:Qa)(mg:Str->Option Qb)(base:Heap)(CX:Ux)(k:Nat)(f:Addr)(fd:Qm)(ps:List Str)(sp:Sp):Prop where
 len:∀ vs H Q E,sp vs H Q E->vs.length=ps.length
 run:∀ (A:QF) (outer:List Env) (s:Qe) (H:Hp) (args:Args) (us:List Qb) (vs:List V) (Q:VK) (E:XK),Room k A->Env0 P w K mg base A outer s H->RO s fd args (ps.zip us)->Vals vs us->sp vs H Q E ->
  JU (Qt P w) A (.call (.ref f) args) (CR CX outer P w H s Q E) s
theorem FnOk.mono {P:Qk}{w:Qv}{K:Qa}{mg:Str->Option Qb}{base:Heap}{CX:Ux}{j k:Nat}{f:Addr}{fd:Qm}{ps:List Str}{sp:Sp}(F:FnOk P w K mg base CX j f fd ps sp)(h:j<=k) :
 FnOk P w K mg base CX k f fd ps sp:=⟨F.len,fun A outer s H args us vs Q E hr=>F.run A outer s H args us vs Q E (hr.mono h)⟩
theorem Env0.make {P:Qk}{w:Qv}{K:Qa}{mg:Str->Option Qb}{base:Heap}{A:QF}{outer:List Env}{s:Qe}{H:Hp}(e:Env0 P w K mg base A outer s H)(C:Addr)(us:List Qb)(kw:List (Str×Qb)) :
 Env0 P w K mg base (A.under (.builtin "type.__call__" ⟨.ref C::us,kw⟩)) outer s H:=⟨by first | exact e.frames | (simpa [SO,Code.envs,OS,pushEnvs] using e.frames),e.mod,e.bs,e.bsz,e.funs,e.frf,e.hok,e.bare⟩
section
variable {X:Cx}{pins:List (Addr×Obj)}{σ:St}{H:Hp}{s s':Qe}
theorem Inv.env0 (I:Inv X pins σ H s):Env0 X.prog X.w X.K X.mg X.base X.A X.stack s H :=
 ⟨I.ok.frames,I.ok.mod,I.bs,Qn I.ok.bsz I.sz,I.stack,I.stkFree,I.hok,I.bare⟩
theorem Inv.after {Q:VK}{u:Qb}(I:Inv X pins σ H s)(h:CE X.stack X.prog X.w H s Q u s'):EP X pins σ Q u s':=by
 obtain ⟨v,H',os,bare,un,hok,r,q⟩:=h
 obtain ⟨hh,g,d,t,os'⟩:=s'
 obtain rfl:os'=s.os:=os
 exact ⟨v,H',I.call (h':=hh) (g':=g) (d':=d) (t':=t) (ch:=[]) un hok bare (fun b z=>absurd z (by simp)),r,q⟩
end
def Zgl (sp:Sp)(dvs:List V)(E:XK)(t:TA):TE:=fun σ H Q=>t σ H fun vs H1=>sp (vs++dvs) H1 Q E
def Zdl (C:Addr)(m:Str)(sp:Sp)(dvs:List V)(E:XK)(ta:TE)(t:TA):TE:=fun σ H Q=>ta σ H fun x H1=>∃ a dx fs,x=.ref a/\H1 a=some (.ins C dx fs)/\fs.lookup m=none /\
 t σ H1 fun vs H2=>sp (x::(vs++dvs)) H2 Q E
def Zkg (C:Addr)(sp:Sp)(dvs:List V)(E:XK)(t:TA):TE:=fun σ H Q=>t σ H fun vs H1=>∀ x dx,H1 x=none->H1 dx=none->dx≠x ->
 sp (.ref x::(vs++dvs)) (upd (upd H1 dx (.own x)) x (.ins C dx [])) (fun v H2=>v=.non/\Q (.ref x) H2) E
def Binds (K:Qa)(fd:Qm)(ps:List Str)(ds:List Qb):Prop :=
 ∀ (s:Qe) (us:List Qb),K.In s.heap->(us++ds).length=ps.length->RO s fd ⟨us,[]⟩ (ps.zip (us++ds))
theorem Binds.all {K:Qa}{fd:Qm}{ps:List Str}(h:∀ us:List Qb,us.length=ps.length->Rv fd ⟨us,[]⟩=pure (ps.zip us)):Binds K fd ps []:=fun s us _ hl=>by
 rw [append_nil] at hl ⊢
 exact .of_eq (h us hl)
def Us (CX:Ux)(X:Cx)(E:XK):Prop:=∀(pins:List (Addr×Obj))(σ:St)(H:Hp)(s:Qe)(e:Qb)(s':Qe),Inv X pins σ H s->CX X.stack H s E e s'->X.xe e s'
section
variable {X:Cx}{CX:Ux}{k:Nat}{f C:Addr}{fd:Qm}{ps:List Str}{sp:Sp}{dvs:List V}{ds:List Qb}{E:XK}{x m:Str}{p pos apos:Pos}{e o:Expr}{es:List Expr}{ta:TE}{t:TA}
theorem ZeJ {pins:List (Addr×Obj)}{σ:St}{H:Hp}{s:Qe}{Q:VK}{us:List Qb}{vs:List V}(F:FnOk X.prog X.w X.K X.mg X.base CX k f fd ps sp)(hr:Room k X.A)(hb:Binds X.K fd ps ds)(hd:Vals dvs ds)(hx:Us CX X E)
 (I:Inv X pins σ H s) (r:Vals vs us) (h:sp (vs++dvs) H Q E):Qq (Qt X.prog X.w) X.A (call (.ref f) us) (EP X pins σ Q) X.xe s:=by
 have r2:Vals (vs++dvs) (us++ds):=r.append hd
 have hl:(us++ds).length=ps.length:=by rw [<- r2.length];exact F.len _ _ _ _ h
 refine JF (GA (F.run X.A X.stack s H ⟨us,[]⟩ (us++ds) (vs++dvs) Q E hr I.env0 (hb s us I.kIn hl) r2 h) fun r s' hq=>?_)
 cases r with
 | error e=>exact hx pins σ H s e s' I hq
 | ok fl =>
  cases fl with
  | ret u=>exact I.after hq
  | next=>exact QN hq
  | brk=>exact QN hq
  | cont=>exact QN hq
theorem Zme (F:FnOk X.prog X.w X.K X.mg X.base CX k f fd ps sp)(hr:Room k X.A)(hg:Gl X x)(hm:X.mg x=some (.ref f))(hk:GO X.K (.ref f)=true)(hb:Binds X.K fd ps ds)(hd:Vals dvs ds)(hx:Us CX X E)
 (ha:PA X (e::es) t) (hdb:(x == ("__debug__":Str))=false:=by decide) (he:QE (e::es) X.env=(false,eval e X.env)::QE es X.env:=by rfl) (hpl:(Jg pos (QE es X.env)).any (·.1)=false:=by rfl) :
 PE X (.Call (.Name x p) (e::es) [] pos) (Zgl sp dvs E t):=by
 intro pins s σ H Q I h
 refine QV (WY I hg hm ?_ hdb)
 refine JW (h₀:=X.base) I.ok.mod.kin hk (Zs (ha pos pins s σ H _ I h) fun us s1 ⟨vs,H1,I1,r,q⟩=>⟨I1.kIn,?_⟩) he hpl
 exact ZeJ F hr hb hd hx I1 r q
theorem ZkX {pl:Sem Bool}(he:PE X o ta)(c:Cls X.K C)(hm:VR X.K C m f)(F:FnOk X.prog X.w X.K X.mg X.base CX k f fd ps sp)(hr:Room k X.A)(hb:Binds X.K fd ps ds)(hd:Vals dvs ds)(hx:Us CX X E)(ha:PA X (e::es) t)
 (hst:QE (e::es) X.env=(false,eval e X.env)::QE es X.env:=by rfl) (hpl:(Jg pos (QE es X.env)).any (·.1)=false:=by rfl)
 (ht:eval (.Call (.Attribute o m apos) (e::es) [] pos) X.env=(do
  let ov <- eval o X.env
  TV apos.atName
  let (f,first) <- Pd [ov] (Tq ov m pl)
  Sq pos f first (Jg pos (QE (e::es) X.env)) (PQ pos (Jk [] X.env))):=by rfl) :
 PE X (.Call (.Attribute o m apos) (e::es) [] pos) (Zdl C m sp dvs E ta t):=by
 intro pins s σ H Q I h
 refine Pw (pl:=pl) (Zs (he pins s σ H _ I h) fun u s1 ⟨x,H1,I1,rx,a,dx,fs,ex,ea,l,q⟩=>?_) ht
 subst ex
 obtain rfl:u=Qo a:=rx
 refine Vs I1 ea c hm l ?_
 refine JW (first:=[.ref a]) (h₀:=X.base) I.ok.mod.kin hm.kp (Zs (ha pos pins s1 σ H1 _ I1 q) fun us s2 ⟨vs,H2,I2,r,q2⟩=>⟨I2.kIn,?_⟩) hst hpl
 exact ZeJ (us:=.ref a::us) (vs:=.ref a::vs) F hr hb hd hx I2 (.cons rfl r) q2
theorem Zjq {pl:Sem Bool}(he:PE X o ta)(c:Cls X.K C)(hm:VR X.K C m f)(F:FnOk X.prog X.w X.K X.mg X.base CX k f fd ps sp)(hr:Room k X.A)(hb:Binds X.K fd ps ds)(hd:Vals dvs ds)(hx:Us CX X E)
 (ht:eval (.Call (.Attribute o m apos) [] [] pos) X.env=(do
  let ov <- eval o X.env
  TV apos.atName
  let (f,first) <- Pd [ov] (Tq ov m pl)
  Sq pos f first (Jg pos (QE [] X.env)) (PQ pos (Jk [] X.env))):=by rfl) :
 PE X (.Call (.Attribute o m apos) [] [] pos) (Zdl C m sp dvs E ta WP):=by
 intro pins s σ H Q I h
 refine Pw (pl:=pl) (Zs (he pins s σ H _ I h) fun u s1 ⟨x,H1,I1,rx,a,dx,fs,ex,ea,l,q⟩=>?_) ht
 subst ex
 obtain rfl:u=Qo a:=rx
 refine Vs I1 ea c hm l ?_
 exact RZ (first:=[.ref a]) I1.kIn hm.kp (ZeJ (us:=[.ref a]) (vs:=[.ref a]) F hr hb hd hx I1 (.cons rfl .nil) q)
structure Mk (K:Qa)(C f:Addr):Prop where
 makes:Rc K C=true
 init:Qx K (.ref C) "__init__"=some (some (.ref f))
 fn:SN K (.ref f)=true
 kp:GO K (.ref C)=true
theorem Zjr {pins:List (Addr×Obj)}{σ:St}{H:Hp}{s:Qe}{Q:VK}{us:List Qb}{vs:List V}(M:Mk X.K C f)(F:FnOk X.prog X.w X.K X.mg X.base CX k f fd ps sp)(hr:Room (k+1) X.A)(hb:Binds X.K fd ps ds)(hd:Vals dvs ds)
 (hx:Us CX X E) (I:Inv X pins σ H s) (r:Vals vs us)
 (h:∀ x dx,H x=none->H dx=none->dx≠x->sp (.ref x::(vs++dvs)) (upd (upd H dx (.own x)) x (.ins C dx [])) (fun v H2=>v=.non/\Q (.ref x) H2) E) :
 Qq (Qt X.prog X.w) X.A (call (.ref C) us) (EP X pins σ Q) X.xe s:=by
 have hq:=h (s.heap.objs.size+1) s.heap.objs.size (I.hok.fresh (Gu _)) (I.hok.fresh (Qh _)) (Qw (So _))
 have I2:=Inv.made (C:=C) I
 have r2:Vals (V.ref (s.heap.objs.size+1)::(vs++dvs)) (Qo (s.heap.objs.size+1)::(us++ds)):=.cons rfl (r.append hd)
 have hl:(Qo (s.heap.objs.size+1)::us++ds).length=ps.length:=by
  have e:=r2.length
  rw [F.len _ _ _ _ hq] at e
  exact e.symm
 refine JF (ZjQ (f:=f) I.kIn M.makes M.init (beq_iff_eq.mp M.fn) (GA (F.run _ X.stack _ _ ⟨Qo (s.heap.objs.size+1)::us,[]⟩ (Qo (s.heap.objs.size+1)::(us++ds)) _ _ E (hr.make C us [])
  (I2.env0.make C us []) (hb _ (Qo (s.heap.objs.size+1)::us) I2.kIn hl) r2 hq) fun r s' hq'=>?_))
 cases r with
 | error e=>exact hx pins σ _ _ e s' I2 hq'
 | ok fl =>
  cases fl with
  | ret u =>
   obtain ⟨v,H',I3,rv,ev,q3⟩:=I2.after hq'
   subst ev
   exact ⟨rv,⟨V.ref (s.heap.objs.size+1),H',I3,rfl,q3⟩⟩
  | next=>exact QN hq'
  | brk=>exact QN hq'
  | cont=>exact QN hq'
theorem ZjW (M:Mk X.K C f)(F:FnOk X.prog X.w X.K X.mg X.base CX k f fd ps sp)(hr:Room (k+1) X.A)(hg:Gl X x)(hm:X.mg x=some (.ref C))(hb:Binds X.K fd ps ds)(hd:Vals dvs ds)(hx:Us CX X E)
 (hdb:(x == ("__debug__":Str))=false:=by decide):PE X (.Call (.Name x p) [] [] pos) (Zkg C sp dvs E WP):=by
 intro pins s σ H Q I h
 refine QV (WY I hg hm ?_ hdb)
 exact RZ I.kIn M.kp (Zjr (us:=[]) M F hr hb hd hx I .nil h)
end
def PK (X:Cx)(kws:List OT)(t:TA):Prop :=
 ∀ (pos:Pos) (pins:List (Addr×Obj)) (s:Qe) (σ:St) (H:Hp) (Q:List V->Hp->Prop),Inv X pins σ H s->t σ H Q->Qq (Qt X.prog X.w) X.A (evalAll ((PQ pos (Jk kws X.env)).map (·.2))) (AP X pins σ Q) X.xe s
section
variable {X:Cx}{CX:Ux}{k:Nat}{f C:Addr}{fd:Qm}{ps ks:List Str}{sp:Sp}{E:XK}{x m:Str}{p pos apos kpos:Pos}{e o:Expr}{es:List Expr}{kws:List OT}{te ta:TE}{t tk:TA}{nm:Option Str}
theorem ZnJ:PK X [] WP:=fun _ _ _ _ H Q I h=>OU ⟨[],H,I,.nil,h⟩
theorem ZlS (ha:PE X e te)(hr:PK X kws t):PK X (⟨nm,e,kpos⟩::kws) (XZ te t):=by
 intro pos pins s σ H Q I h
 show Qq _ _ (evalAll ((do let v <- eval e X.env;TV pos;pure v)::(PQ pos (Jk kws X.env)).map (·.2))) _ _ s
 refine wpAny_evalAll_cons (Qg (Zs (ha pins s σ H _ I h) fun u s1 ⟨x,H1,I1,r1,q1⟩=>Qg (Gz (Qp ?_))))
 exact Zs (hr pos pins s1 σ H1 _ I1 q1) fun us s2 ⟨xs,H2,I2,r2,q2⟩=>⟨x::xs,H2,I2,.cons r1 r2,q2⟩
variable {g:List Qb->List Qb->List Qb}{gV:List V->List V->List V}
end
structure Zm (N P:List Str)(sc:Scope):Prop where
 kind:sc.kind=.function
 co:sc.isCoroutine=false
 gen:sc.isGenerator=false
 nd:N.Nodup
 pre:N.take P.length=P
 par:∀ x∈P,sc.names.lookup x=some .local\/sc.names.lookup x=some .cell
 nofree:∀ y∈sc.names,y.2≠.free
theorem ZcF {kindOf:Str->Option Pf}{x:Str}:∀{binds:List (Str×Qb)}{m:Str->Option Qb},(∀ v,(x,v) ∉ binds)->NH kindOf binds m x=m x
 | [],_,_=>rfl
 | (n,v)::r,m,h=>by
  unfold NH
  rw [ZcF fun w hw=>h w (mem_cons_of_mem _ hw)]
  split
  ·have:x≠n:=by rintro rfl;exact h v mem_cons_self
   simp [this]
  ·rfl
theorem ZcG {kindOf:Str->Option Pf}{x:Str}:∀{binds:List (Str×Qb)}{m:Str->Option Qb},(∀ v,(x,v) ∉ binds)->bindC kindOf binds m x=m x
 | [],_,_=>rfl
 | (n,v)::r,m,h=>by
  unfold bindC
  rw [ZcG fun w hw=>h w (mem_cons_of_mem _ hw)]
  split
  ·rfl
  ·have:x≠n:=by rintro rfl;exact h v mem_cons_self
   simp [this]
theorem ZcX {kindOf:Str->Option Pf}{x:Str}{v:Qb}:∀{P:List Str}{vs:List Qb}{i:Nat}{m:Str->Option Qb},P.Nodup->P[i]?=some x->vs[i]?=some v->kindOf x=some .local ->
 NH kindOf (P.zip vs) m x=some v
 | [],_,_,_,_,h,_,_=>by simp at h
 | _::_,[],_,_,_,_,h,_=>by simp at h
 | p::P,w::vs,0,m,nd,h1,h2,hk=>by
  simp at h1 h2;subst h1;subst h2
  show NH kindOf ((p,w)::P.zip vs) m p=_
  unfold NH
  rw [ZcF fun v hv=>(nodup_cons.mp nd).1 (of_mem_zip hv).1,if_pos hk]
  simp
 | p::P,w::vs,i+1,m,nd,h1,h2,hk=>by
  show NH kindOf ((p,w)::P.zip vs) m x=_
  unfold NH
  exact ZcX (i:=i) (nodup_cons.mp nd).2 (by simpa using h1) (by simpa using h2) hk
theorem Zcz {kindOf:Str->Option Pf}{x:Str}{v:Qb}:∀{P:List Str}{vs:List Qb}{i:Nat}{m:Str->Option Qb},P.Nodup->P[i]?=some x->vs[i]?=some v->kindOf x≠some .local ->
 bindC kindOf (P.zip vs) m x=some v
 | [],_,_,_,_,h,_,_=>by simp at h
 | _::_,[],_,_,_,_,h,_=>by simp at h
 | p::P,w::vs,0,m,nd,h1,h2,hk=>by
  simp at h1 h2;subst h1;subst h2
  show bindC kindOf ((p,w)::P.zip vs) m p=_
  unfold bindC
  rw [ZcG fun v hv=>(nodup_cons.mp nd).1 (of_mem_zip hv).1,if_neg hk]
  simp
 | p::P,w::vs,i+1,m,nd,h1,h2,hk=>by
  show bindC kindOf ((p,w)::P.zip vs) m x=_
  unfold bindC
  exact Zcz (i:=i) (nodup_cons.mp nd).2 (by simpa using h1) (by simpa using h2) hk
def start (N:List Str)(vs:List V):St:=vs.map some++Qy (N.length - vs.length) none
def ZQ (CX:Ux)(P:Qk)(w:Qv)(K:Qa)(mg:Str->Option Qb)(base:Heap)(N:List Str)(qual:Str)(scope:Scope)(f:Addr)(cd:Qb)(A:QF)(outer:List Env)(s:Qe)(H:Hp)(E:XK):Cx where
 prog:=P
 w:=w
 K:=K
 mg:=mg
 base:=base
 A:=A.deeper (PB qual scope s.heap.objs.size f cd)
 N:=N
 s₀:=s
 H₀:=H
 env:=PB qual scope s.heap.objs.size f cd
 outer:=outer
 stack:=PB qual scope s.heap.objs.size f cd::outer
 ex:=[]
 calm:=true
 fn:=fun _=>true
 pn:=[]
 xe:=fun e s'=>Qq (Qt P w) (A.deeper (PB qual scope s.heap.objs.size f cd)) (leaving (PB qual scope s.heap.objs.size f cd) e) (fun _ s''=>CX outer H s E e s'') (fun e' s''=>CX outer H s E e' s'') s'
theorem Zet {sc:Scope}{n:Nat}{x:Str}(h:sc.names.lookup x=some .cell):∃ c,(cellsFrom n sc.names []).lookup x=some c:=by
 have q:=SQ sc.names n [] (.inl h)
 exact JQ.mp q
theorem Zhz {CX:Ux}{P:Qk}{w:Qv}{K:Qa}{mg:Str->Option Qb}{base:Heap}{N ps:List Str}{qual:Str}{scope:Scope}{f:Addr}{cd:Qb}{A:QF}{outer:List Env}{s s1:Qe}{H:Hp}{E:XK}{us:List Qb}{vs:List V}
 (S:Zm N ps scope) (hd:A.handled=none) (e0:Env0 P w K mg base A outer s H) (hl:vs.length=ps.length) (r:Vals vs us)
 (x:InCallC s s.heap.objs.size (NH (PB qual scope s.heap.objs.size f cd).kindOf (ps.zip us) fun _=>none) (cellsFrom (s.heap.objs.size+1) scope.names []) (bindC (PB qual scope s.heap.objs.size f cd).kindOf (ps.zip us) fun _=>none) s1) :
 Inv (ZQ CX P w K mg base N qual scope f cd A outer s H E) [] (start N vs) H s1:=by
 have hpl:ps.length<=N.length:=by have:=congrArg TZ S.pre;rw [length_take] at this;omega
 obtain ⟨h1,tk,rfl,hk⟩:=x.done
 have noA:∀ b:Addr,b ∉ (ZQ CX P w K mg base N qual scope f cd A outer s H E).ex:=fun b z=>absurd (show b∈([]:List Addr) from z) (by simp)
 refine ⟨⟨e0.mod,S.kind,rfl,rfl,Qh _,fun y z c h1 h2=>?_,fun y hy=>?_,fun y c _ h=>?_,fun _=>hd,Rw e0.frames,.inr ⟨rfl,rfl⟩,fun b z=>absurd z (noA b),e0.bs,e0.bsz,fun b _ _=>noA b,fun b z=>absurd z (noA b),e0.funs,e0.frf⟩,
  rfl,e0.bare,Un.kept hk,⟨_,x.toInCall.ns,fun i y v h1 h2 h3=>?_⟩,fun y c h=>⟨_,x.cell y c h⟩,e0.hok.fresh (Qh _),fun y c h=>?_,fun p hp=>absurd (show p∈([]:List (Addr×Obj)) from hp) (by simp),e0.hok.kept hk,?_⟩
 ·exact name_of_addr x.apart (Jf h1) (Jf h2)
 ·have hy:scope.names.lookup y=some .cell\/scope.names.lookup y=some .free:=hy
  rcases hy with hy | hy
  ·exact Zet hy
  ·exact absurd rfl (S.nofree _ (Jf hy))
 ·exact GH (x.above y c (Jf h))
 ·have hi:i < vs.length:=by
   unfold start at h2
   by_cases hi:i < vs.length
   ·exact hi
   ·rw [getElem?_append_right (by simpa using hi)] at h2
    rw [List.getElem?_replicate] at h2
    split at h2<;>cases h2
  have ha:vs[i]?=some v:=by
   unfold start at h2
   rw [getElem?_append_left (by simpa using hi),getElem?_map] at h2
   cases e:vs[i]? with
   | none=>rw [e] at h2;cases h2
   | some a=>rw [e] at h2;cases h2;rfl
  obtain ⟨u,hu,rv⟩:=r.get ha
  have hp:ps[i]?=some y:=by
   rw [<- S.pre,List.getElem?_take_of_lt (by omega)];exact h1
  have ndP:ps.Nodup:=by rw [<- S.pre];exact S.nd.sublist (OV _ _)
  refine ⟨u,rv,?_⟩
  rcases S.par y (mem_of_getElem? hp) with k | k
  ·exact .inl ⟨k,ZcX ndP hp hu k⟩
  ·obtain ⟨c,e⟩:=Zet (n:=s.heap.objs.size+1) k
   refine .inr ⟨.inl k,c,e,?_⟩
   have q:=x.cell y c e
   rw [Zcz ndP hp hu (by show scope.names.lookup y≠_;rw [k];decide)] at q
   exact q
 ·exact e0.hok.fresh (GH (x.above y c (Jf h)))
 ·unfold start
  show _=N.length
  rw [length_append,length_map,length_replicate]
  omega
theorem ZfX {CX:Ux}{P:Qk}{w:Qv}{K:Qa}{mg:Str->Option Qb}{base:Heap}{k:Nat}{f:Addr}{name qual:Str}{params:RP}{body:List Stmt}{scope:Scope}{dV kV doc pm cdv ct oc:Qb}{an od:Option Addr}
 {osl:Array (Option Qb)} {N ps:List Str} {sp:Sp} (lk:K.lookup f=some ⟨oc,od,.func (Pg name qual params body scope dV kV doc pm an cdv ct),osl⟩) (hcd:Rx K cdv qual=true) (S:Zm N ps scope)
 (len:∀ vs H Q E,sp vs H Q E->vs.length=ps.length)
 (hbody:∀ (A:QF) (outer:List Env) (s:Qe) (H:Hp) (vs:List V) (Q:VK) (E:XK),Room k (A.deeper (PB qual scope s.heap.objs.size f cdv))->sp vs H Q E ->
  ∃ t,PSs (ZQ CX P w K mg base N qual scope f cdv A outer s H E) body t/\t { nx:=fun _ H'=>Q .non H',rt:=Q } (start N vs) H) :
 FnOk P w K mg base CX (k+1) f (Pg name qual params body scope dV kV doc pm an cdv ct) ps sp:=by
 refine ⟨len,fun A outer s H args us vs Q E hr e0 hb r hsp=>?_⟩
 have hl:=len _ _ _ _ hsp
 have KX:K.In s.heap:=e0.mod.kin.keeps fun b o e=>(e0.bs b o e).1
 have lim:s.heap.NoLimit:=e0.mod.nolimit.keeps fun b o e=>(e0.bs b o e).1
 have hkind:∀ y∈ps.zip us,scope.names.lookup y.1=some .local\/(scope.names.lookup y.1=some .cell/\((cellsFrom (s.heap.objs.size+1) scope.names []).lookup y.1).isSome=true):=fun ⟨n,v⟩ hy=>by
  rcases S.par n (of_mem_zip hy).1 with q | q
  ·exact .inl q
  ·exact .inr ⟨q,SQ _ _ _ (.inl q)⟩
 refine codeAny_call_function hr.depth (KX _ _ lk) rfl S.co S.gen rfl (PySem.W.codeRec_of KX hcd) (hb _ _ _ _ ?_)
 refine Tz S.kind hkind fun env he s1 x=>?_
 subst he
 refine ⟨lim.keeps x.toInCall.keep,codeAny_func ?_⟩
 obtain ⟨t,ht,hq⟩:=hbody A outer s H vs Q E (hr.deeper _) hsp
 have I:Inv (ZQ CX P w K mg base N qual scope f cdv A outer s H E) [] (start N vs) H s1:=Zhz S hr.hd e0 hl r x
 refine QS (ht [] s1 (start N vs) H _ I hq) (fun fl s' hs=>?_) fun e s' hs=>hs
 have fin:∀ {σ':St} {H':Hp} {v:V} {u:Qb},Inv (ZQ CX P w K mg base N qual scope f cdv A outer s H E) [] σ' H' s'->RelV v u->Q v H'->CE outer P w H s Q u s' :=
  fun {σ' H' v u} J rv q=>⟨v,H',J.os,J.bare,J.base,J.hok,rv,q⟩
 cases fl with
 | ret u =>
  obtain ⟨v,σ',H',J,rv,q⟩:=hs
  exact fin J rv q
 | next =>
  obtain ⟨σ',H',J,q⟩:=hs
  exact fin (v:=V.non) (u:=QX) J rfl q
 | brk =>
  obtain ⟨_,_,_,q⟩:=hs
  exact QN q
 | cont =>
  obtain ⟨_,_,_,q⟩:=hs
  exact QN q
section
variable {X:Cx}{x:Str}{p pos:Pos}{e:Expr}{es:List Expr}{t:TA}{id T:String}{r:List V->Hp->VK->Prop}
def tCB (r:List V->Hp->VK->Prop)(t:TA):TE:=fun σ H Q=>t σ H fun vs H1=>r vs H1 Q
theorem Zr (hc:Yz X (.builtin id) r)(hg:Gl X x)(hm:X.mg x=none)(hv:Pc x=some (.builtin id))(ha:PA X (e::es) t)(hn:x≠"__name__":=by decide)(hdb:(x == ("__debug__":Str))=false:=by decide)
 (he:QE (e::es) X.env=(false,eval e X.env)::QE es X.env:=by rfl) (hpl:(Jg pos (QE es X.env)).any (·.1)=false:=by rfl):PE X (.Call (.Name x p) (e::es) [] pos) (tCB r t):=by
 intro pins s σ H Q I h
 refine QV (Ur I hg hm hv ?_ hn hdb)
 exact Nm (Zs (ha pos pins s σ H _ I h) fun us s1 ⟨vs,H1,I1,r1,q1⟩=>hc pins s1 σ H1 vs us Q I1 r1 q1) he hpl
theorem YN (hc:Yz X (.type T) r)(hg:Gl X x)(hm:X.mg x=none)(hv:Pc x=some (.type T))(ha:PA X (e::es) t)(hn:x≠"__name__":=by decide)(hdb:(x == ("__debug__":Str))=false:=by decide)
 (he:QE (e::es) X.env=(false,eval e X.env)::QE es X.env:=by rfl) (hpl:(Jg pos (QE es X.env)).any (·.1)=false:=by rfl):PE X (.Call (.Name x p) (e::es) [] pos) (tCB r t):=by
 intro pins s σ H Q I h
 refine QV (Ur I hg hm hv ?_ hn hdb)
 exact Jw (Zs (ha pos pins s σ H _ I h) fun us s1 ⟨vs,H1,I1,r1,q1⟩=>hc pins s1 σ H1 vs us Q I1 r1 q1) he hpl
end
end L2
namespace HT
open PySem PyProof.Rows
section
open PySem.SeqAt
open PySem.AutoSeq1 (wpAny_loadPart')
open PySem.MeetsSeq PySem.MeetsSeq2 PySem.MeetsSeq3
end
section
variable {prog:Qk}{w:Qv}{A:QF}{E:Qb->Qe->Prop}{s:Qe}
theorem cat_tup {t b:Addr}{vs ws:List Qb}{Q:Qb->Qe->Prop}(ht:Rq s.heap t vs.toArray)(hb:Rq s.heap b ws.toArray)(hv:vs≠[])
 (h1:ws=[]->Q (.ref t) s) (h2:ws≠[]->Q (.ref s.heap.objs.size) { s with heap:=s.heap.push { cls:=.type "tuple",data:=.seq (vs++ws).toArray } })
 (hsz:vs.length+ws.length<=Qi):Qq (Qt prog w) A (Jn .Add (.ref t) (.ref b)) Q E s:=by
 obtain ⟨⟨cls,dd,data,sl⟩,ho,hc,n,hd⟩:=id ht
 obtain ⟨⟨cls2,dd2,data2,sl2⟩,ho2,hc2,n2,hd2⟩:=id hb
 simp only at hc hd hc2 hd2
 subst hc hd hc2 hd2
 have e:vs.toArray++ws.toArray=(vs++ws).toArray:=by simp
 by_cases hw:ws=[]
 ·exact concat_meets ⟨_,ho,rfl⟩ ⟨_,ho2,rfl⟩ Nn seq_tuple_add SS Sr (Sj _ _)
   (tuple_addW1 t b vs.toArray ws.toArray n n2 dd dd2 sl sl2 (by simpa using hv) (by simp [hw])) ⟨ho,ho2,h1 hw⟩
 ·refine concat_meets ⟨_,ho,rfl⟩ ⟨_,ho2,rfl⟩ Nn seq_tuple_add SS Sr (Sj _ _)
   (tuple_addW2 t b vs.toArray ws.toArray n n2 dd dd2 sl sl2 (by simpa using hv) (by simpa using hw) (by rw [size_toArray,size_toArray];exact hsz)) ⟨ho,ho2,?_⟩
  rw [e]
  exact h2 hw
def sIx (n d:Nat):Option Int->Nat
 | none=>d
 | some v=>if v < 0 then (v+(n:Int)).toNat else min v.toNat n
theorem sIx_le (n d:Nat)(hd:d<=n)(o:Option Int):sIx n d o<=n:=by
 cases o with
 | none=>exact hd
 | some v =>
  show (if v < 0 then (v+(n:Int)).toNat else min v.toNat n)<=n
  by_cases hv:v < 0
  ·rw [if_pos hv];omega
  ·rw [if_neg hv];exact No _ _
theorem Zfy (v:Int)(n d:Nat):(if v < 0 then max (v+(n:Int)) 0 else min v (n:Int))=((sIx n d (some v):Nat):Int):=by
 show (if v < 0 then max (v+(n:Int)) 0 else min v (n:Int))=(((if v < 0 then (v+(n:Int)).toNat else min v.toNat n):Nat):Int)
 by_cases hv:v < 0
 ·simp only [if_pos hv];omega
 ·simp only [if_neg hv];omega
theorem Zgo (lo hi:Option Int)(n:Nat):JM lo hi 1 (n:Int)=(((sIx n 0 lo:Nat):Int),((sIx n n hi:Nat):Int)):=by
 have h1:¬ ((1:Int) < 0):=by omega
 unfold JM
 simp only [h1,if_false]
 refine Prod.ext ?_ ?_
 ·cases lo with
  | none=>rfl
  | some v=>exact Zfy v n 0
 ·cases hi with
  | none=>rfl
  | some v=>exact Zfy v n n
theorem Zga (i j:Nat):GS (i:Int) (j:Int) 1=j - i:=by
 unfold GS
 have h1:(1:Int) > 0:=by omega
 simp only [h1,if_true,OW]
 split<;>omega
theorem Zbe {v:Qb}{o:Option Int}{Q:Option Int->Qe->Prop}(p:OA v o)(h:Q o s):Qq (Qt prog w) A (NO v) Q E s:=by
 cases p with
 | none=>exact slicePart_none h
 | int i t=>exact slicePart_int h
theorem ZaT {sl:Addr}{vl vu:Qb}{lo hi:Option Int}{n:Nat}{Q:Int×Int×Nat->Qe->Prop}(hs:s.heap.IsSliceOf sl vl vu .none)(pl:OA vl lo)(pu:OA vu hi)
 (h:Q (((sIx n 0 lo:Nat):Int),1,sIx n n hi - sIx n 0 lo) s):Qq (Qt prog w) A (TD (.ref sl) (pure (n:Int))) Q E s:=by
 obtain ⟨os,hos,hcs,hds⟩:=id hs
 unfold TD Builtin.Slice.sliceFields
 refine Qg (Qg (JG hos hds (x:=vl) rfl (Qg (JG hos hds (x:=vu) rfl (Qg (JG hos hds (x:=.none) rfl (Qp ?_)))))))
 refine Qg (slicePart_none ?_)
 show Qq _ _ (if ((1:Int) == 0)=true then _ else _) _ _ s
 rw [if_neg (by decide)]
 refine Qg (Zbe pl (Qg (Zbe pu (Qg (Qp ?_)))))
 show Qq _ _ (match JM lo hi 1 (n:Int) with | (lo,hi)=>pure (lo,(1:Int),GS lo hi 1)) _ _ s
 rw [Zgo lo hi n]
 show Qq _ _ (pure (((sIx n 0 lo:Nat):Int),(1:Int),GS ((sIx n 0 lo:Nat):Int) ((sIx n n hi:Nat):Int) 1)) _ _ s
 rw [Zga]
 exact Qp h
theorem ZiR (xs:Array Qb)(i k:Nat):((Gd k).filterMap fun (m:Nat)=>xs[((i:Int)+(m:Int) * 1).toNat]?).toArray=((xs.toList.drop i).take k).toArray:=by
 have e:(fun (m:Nat)=>xs[((i:Int)+(m:Int) * 1).toNat]?)=fun m=>xs[i+m]?:=by
  funext m
  have:((i:Int)+(m:Int) * 1).toNat=i+m:=by omega
  rw [this]
 rw [e]
 have:=pick_run xs i k
 rw [OB] at this
 have e2:((fun x=>xs[x]?) ∘ fun x=>i+x)=fun m=>xs[i+m]?:=rfl
 rw [e2] at this
 rw [this]
theorem getItem_tuple_cut {t sl:Addr}{items:Array Qb}{vl vu:Qb}{lo hi:Option Int}{Q:Qb->Qe->Prop}(ht:Rq s.heap t items)(hs:s.heap.IsSliceOf sl vl vu .none)(pl:OA vl lo)(pu:OA vu hi)
 (hw:¬ (sIx items.size 0 lo=0/\sIx items.size items.size hi=items.size))
 (h:Q (.ref s.heap.objs.size) { s with heap:=s.heap.push { cls:=.type "tuple",data:=.seq ((items.toList.drop (sIx items.size 0 lo)).take (sIx items.size items.size hi - sIx items.size 0 lo)).toArray } })
 (hsz:items.size<=Qi):Qq (Qt prog w) A (SU (.ref t) (.ref sl)) Q E s:=by
 have htake:sizeOk (.seq ((items.toList.drop (sIx items.size 0 lo)).take (sIx items.size items.size hi - sIx items.size 0 lo)).toArray):=by
  show ((items.toList.drop (sIx items.size 0 lo)).take (sIx items.size items.size hi - sIx items.size 0 lo)).toArray.size<=Qi
  rw [size_toArray,length_take,PD,GG]
  omega
 have hj:sIx items.size items.size hi<=items.size:=sIx_le _ _ (Qh _) hi
 obtain ⟨os,hos,hcs,hds⟩:=id hs
 have hTs:s.TypeIs (.ref sl) "slice":=⟨os,hos,hcs⟩
 unfold SU
 try with_reducible refine Ge ?_
 first | refine Qg (Qp ?_) | skip
 refine Qg (wpAny_sequenceKey ht.typeIs (by decide) ?_)
 refine Qg (wpAny_callSpecial?_slot (name:=QA "__getitem__") ht.typeIs Gq
  (wpAny_call_entry Gq ht.typeIs entry_tuple_getitem ?_ (args_tuple_getitem _ _)))
 show Qq _ _ (Builtin.Tuple.tupleItemsOf (.ref t) >>= _) _ _ s
 refine Qg (tupleItemsOf_ ht ?_)
 refine Qg (SV hTs ?_)
 rw [if_pos (by decide)]
 refine Qg (ZaT hs pl pu ?_)
 have hno:¬ ((((sIx items.size 0 lo:Nat):Int) == 0&&(1:Int) == 1&&(sIx items.size items.size hi - sIx items.size 0 lo) == items.size)=true):=by
  intro q
  rw [QL,QL] at q
  have q1:((sIx items.size 0 lo:Nat):Int)=0:=eq_of_beq q.1.1
  have q2:sIx items.size items.size hi - sIx items.size 0 lo=items.size:=eq_of_beq q.2
  exact hw ⟨by omega,by omega⟩
 show Qq _ _ (if (((sIx items.size 0 lo:Nat):Int) == 0&&(1:Int) == 1&&(sIx items.size items.size hi - sIx items.size 0 lo) == items.size)=true then _ else _) _ _ s
 rw [if_neg hno,ZiR]
 first
  | exact Qg (m:=Jd _) (Gj (Qp ⟨_,rfl,Qp h⟩) htake)
  | exact Qg (m:=Jd _) (Gj (Qg (Qp (Qp ⟨_,rfl,Qp h⟩))) htake)
  | exact Qg (Qg (m:=Jd _) (Gj (Qp (Qp ⟨_,rfl,Qp h⟩)) htake))
  | exact Qg (Qg (m:=Jd _) (Gj (Qp ⟨_,rfl,Qp h⟩) htake))
end
end HT
namespace L2
open PySem PySem.Spec PyProof.Rows
abbrev TO:=St->Hp->(Option Int->Hp->Prop)->Prop
def PO (X:Cx)(e:Option Expr)(t:TO):Prop :=
 ∀ (pins:List (Addr×Obj)) (s:Qe) (σ:St) (H:Hp) (Q:Option Int->Hp->Prop),Inv X pins σ H s->t σ H Q ->
  Qq (Qt X.prog X.w) X.A (evalPart e X.env) (fun u s'=>∃ o H',Inv X pins σ H' s'/\OA u o/\Q o H') X.xe s
def Zfl:TO:=fun _ H Q=>Q none H
def Zph (t:TE):TO:=fun σ H Q=>t σ H fun x H1=>∃ i,x=.int i/\Q (some i) H1
section
variable {X:Cx}{e:Expr}{te:TE}{lo hi:Option Expr}{tl th:TO}{pos p2:Pos}
theorem Zcb:PO X none Zfl:=by
 intro pins s σ H Q I h
 rw [evalPart_none]
 exact Qp ⟨none,H,I,.none,h⟩
theorem Zct (h:PE X e te):PO X (some e) (Zph te):=by
 intro pins s σ H Q I hw
 rw [evalPart_some]
 refine Zs (h pins s σ H _ I hw) fun u s1 ⟨x,H1,I1,r1,q1⟩=>?_
 obtain ⟨i,rfl,q⟩:=q1
 obtain ⟨t,rfl⟩:=r1
 exact ⟨some i,H1,I1,.int i t,q⟩
def SlR (X:Cx)(r:V->Option Int->Option Int->Hp->VK->Prop):Prop :=
 ∀ (pins:List (Addr×Obj)) (s:Qe) (σ:St) (H:Hp) (x:V) (v vl vu:Qb) (lo hi:Option Int) (sl:Addr) (Q:VK),Inv X pins σ H s->RelV x v->s.heap.IsSliceOf sl vl vu .none->OA vl lo->OA vu hi->r x lo hi H Q ->
  ∃ T id,QY (.type T) "__getitem__"=pure (some (.builtin id))/\s.TypeIs v T/\Qq (Qt X.prog X.w) X.A (SU v (.ref sl)) (EP X pins σ Q) X.xe s
def tSl (r:V->Option Int->Option Int->Hp->VK->Prop)(te:TE)(tl th:TO):TE:=fun σ H Q=>te σ H fun x H1=>tl σ H1 fun l H2=>th σ H2 fun u H3=>r x l u H3 Q
theorem ZaU {r:V->Option Int->Option Int->Hp->VK->Prop}(hr:SlR X r)(he:PE X e te)(hl:PO X lo tl)(hu:PO X hi th):PE X (.Subscript e (.Slice lo hi none p2) pos) (tSl r te tl th):=by
 intro pins s σ H Q I h
 refine OC (Zs (he pins s σ H _ I h) fun v s1 ⟨x,H1,I1,r1,q1⟩=>?_)
 refine wpAny_Slice (Zs (hl pins s1 σ H1 _ I1 q1) fun vl s2 ⟨l,H2,I2,pl,q2⟩=>Zs (hu pins s2 σ H2 _ I2 q2) fun vu s3 ⟨u,H3,I3,pu,q3⟩=>?_)
 rw [evalPart_none]
 refine Qp ?_
 have I4:Inv X pins σ H3 { s3 with heap:=s3.heap.push { cls:=.type "slice",data:=.fields #[vl,vu,.none] } }:=I3.kept (t':=s3.toks) fun b ob q=>Qd _ q
 obtain ⟨T,id,hT,ht,hg⟩:=hr pins { s3 with heap:=s3.heap.push { cls:=.type "slice",data:=.fields #[vl,vu,.none] } } σ H3 x v vl vu l u s3.heap.objs.size Q I4 r1 (Heap.IsSliceOf.new ..) pl pu q3
 show Qq (Qt X.prog X.w) X.A (Om e (.Slice lo hi none p2) v (.ref s3.heap.objs.size)) (EP X pins σ Q) X.xe { s3 with heap:=s3.heap.push { cls:=.type "slice",data:=.fields #[vl,vu,.none] } }
 exact tail_any (ops:=[.ref s3.heap.objs.size,v]) ht hT hg (by with_unfolding_all rfl)
def Vy (xs:List V)(lo hi:Option Int):List V:=(xs.drop (HT.sIx xs.length 0 lo)).take (HT.sIx xs.length xs.length hi - HT.sIx xs.length 0 lo)
theorem ZeM (xs:List V)(lo hi:Option Int):(Vy xs lo hi).length<=xs.length:=by
 unfold Vy
 rw [length_take,PD]
 omega
def rSlT (K:Qa):V->Option Int->Option Int->Hp->VK->Prop:=fun x lo hi H Q=>∃ a xs,x=.ref a/\SqT K H a xs /\
 ¬ (HT.sIx xs.length 0 lo=0/\HT.sIx xs.length xs.length hi=xs.length)/\∀ p,H p=none->Q (.ref p) (upd H p (.tup (Vy xs lo hi)))
theorem Zoo:SlR X (rSlT X.K):=by
 intro pins s σ H x v vl vu lo hi sl Q I rx hs pl pu h
 obtain ⟨a,xs,rfl,hx,hw,q⟩:=h
 cases rx
 obtain ⟨its,r,ht,hz⟩:=I.tuple hx
 have hlen:its.toArray.size=xs.length:=by rw [size_toArray];exact r.length.symm
 refine ⟨"tuple",_,Gq.lookup,ht.typeIs,?_⟩
 refine HT.getItem_tuple_cut ht hs pl pu (by rw [hlen];exact hw) ?_ (by rw [hlen];exact hz)
 rw [hlen]
 refine ⟨.ref s.heap.objs.size,_,I.laid (t':=s.toks) (o:=.tup (Vy xs lo hi)) (fun b ob q=>Qd _ q) (Qh _) ?_,rfl,q _ (I.hok.fresh (Qh _))⟩
 exact ⟨Qn (ZeM xs lo hi) hz,_,(r.drop (HT.sIx xs.length 0 lo)).take (HT.sIx xs.length xs.length hi - HT.sIx xs.length 0 lo),Tp _ _⟩
def Zot (K:Qa):R2:=fun x y H Q=>∃ a b xs ys,x=.ref a/\y=.ref b/\SqT K H a xs/\SqT K H b ys/\xs≠[]/\xs.length+ys.length<=Qi /\
 (ys=[]->Q (.ref a) H)/\(ys≠[]->∀ p,H p=none->Q (.ref p) (upd H p (.tup (xs++ys))))
theorem Vals.nil_iff {xs:List V}{us:List Qb}(r:Vals xs us):us=[]↔xs=[]:=by
 cases r with
 | nil=>simp
 | cons _ _=>simp
theorem ZlM:Xe X (Jn .Add) (Zot X.K):=by
 intro pins s σ H x y v u Q I rx ry h
 obtain ⟨a,b,xs,ys,rfl,rfl,ha,hb,hx,hz,q1,q2⟩:=h
 cases rx
 cases ry
 obtain ⟨its,r1,p1,_⟩:=I.tuple ha
 obtain ⟨its2,r2,p2,_⟩:=I.tuple hb
 refine HT.cat_tup p1 p2 (fun z=>hx (r1.nil_iff.mp z)) (fun z=>⟨.ref a,H,I,rfl,q1 (r2.nil_iff.mp z)⟩) (fun z=>?_) (by rw [<- r1.length,<- r2.length];exact hz)
 refine ⟨.ref s.heap.objs.size,_,I.laid (t':=s.toks) (o:=.tup (xs++ys)) (fun b ob q=>Qd _ q) (Qh _) ?_,rfl,q2 (fun w=>z (r2.nil_iff.mpr w)) _ (I.hok.fresh (Qh _))⟩
 exact ⟨by rw [length_append];exact hz,_,r1.append r2,Tp _ _⟩
end
def XI (n:Nat)(i:Int):Option Nat:=if 0<=i then (if i < n then some i.toNat else none) else if -(n:Int)<=i then some (i+n).toNat else none
def YH {α:Type}(xs:List α)(i:Int):Option α:=(XI xs.length i).bind fun j=>xs[j]?
theorem Zcg {n:Nat}{i:Int}{j:Nat}(h:XI n i=some j):RQ i n=some j/\j < n/\-(n:Int)<=i/\i < n:=by
 unfold XI at h
 by_cases h0:0<=i
 ·rw [if_pos h0] at h
  by_cases h1:i < n
  ·rw [if_pos h1] at h
   have e:i.toNat=j:=QG h
   exact ⟨by rw [NI h0 h1,e],by omega,by omega,h1⟩
  ·rw [if_neg h1] at h;cases h
 ·rw [if_neg h0] at h
  by_cases h1:-(n:Int)<=i
  ·rw [if_pos h1] at h
   have e:(i+n).toNat=j:=QG h
   exact ⟨by rw [OX (by omega) h1,e],by omega,h1,by omega⟩
  ·rw [if_neg h1] at h;cases h
theorem Zcr {α:Type}{xs:List α}{i:Int}{v:α}(h:YH xs i=some v):∃ j,RQ i xs.length=some j/\xs[j]?=some v/\j < xs.length/\-(xs.length:Int)<=i/\i < xs.length:=by
 unfold YH at h
 cases e:XI xs.length i with
 | none=>rw [e] at h;cases h
 | some j =>
  rw [e] at h
  obtain ⟨h1,h2,h3,h4⟩:=Zcg e
  exact ⟨j,h1,h,h2,h3,h4⟩
theorem ZE {α:Type}{xs:List α}{j:Nat}{v:α}(h:xs[j]?=some v):YH xs (j:Int)=some v:=by
 have hj:j < xs.length:=(Qf.mp h).1
 have e:XI xs.length (j:Int)=some j:=by
  unfold XI
  rw [if_pos (by omega),if_pos (by omega)];simp
 unfold YH;rw [e];exact h
theorem ZdJ {α:Type}(xs:List α)(v:α):YH (xs++[v]) (-1)=some v:=by
 have hl:(xs++[v]).length=xs.length+1:=by simp
 have e:XI (xs++[v]).length (-1)=some xs.length:=by
  unfold XI
  rw [hl,if_neg (by decide),if_pos (by omega)]
  congr 1
  omega
 unfold YH
 rw [e]
 show (xs++[v])[xs.length]?=some v
 simp
def ZkI (b:Expr):Prop:=∀ o i,Ry b false o i=operate [o,i] (SU o i)
def IxR (X:Cx)(r:R2):Prop :=
 ∀ (value slice:Expr) (pins:List (Addr×Obj)) (s:Qe) (σ:St) (H:Hp) (x y:V) (v u:Qb) (Q:VK),Inv X pins σ H s->RelV x v->RelV y u->r x y H Q ->
  Ry slice false v u=operate [v,u] (SU v u)->Qq (Qt X.prog X.w) X.A (Om value slice v u) (EP X pins σ Q) X.xe s
def MtR (X:Cx)(id:String)(r:V->List V->Hp->VK->Prop):Prop :=
 ∀ (pins:List (Addr×Obj)) (s:Qe) (σ:St) (H:Hp) (x:V) (xs:List V) (v:Qb) (us:List Qb) (Q:VK),Inv X pins σ H s->RelV x v->Vals xs us->r x xs H Q ->
  Qq (Qt X.prog X.w) X.A (call (.builtin id) (v::us)) (EP X pins σ Q) X.xe s
section
variable {X:Cx}{a b:Expr}{ta tb:TE}{pos:Pos}
theorem Zz {r:R2}(hr:IxR X r)(ha:PE X a ta)(hb:PE X b tb)(hs:ZkI b):PE X (.Subscript a b pos) (tOp r ta tb):=by
 intro pins s σ H Q I h
 exact OC (ZjH ha hb I h fun v u s2 x y H2 I2 rx ry q=>hr a b pins s2 σ H2 x y v u Q I2 rx ry q (hs _ _))
def rIxL (K:Qa):R2:=fun x y H Q=>∃ p xs i v,x=.ref p/\y=.int i/\SqL K H p xs/\YH xs i=some v/\Q v H
def rIxT (K:Qa):R2:=fun x y H Q=>∃ p xs i v,x=.ref p/\y=.int i/\SqT K H p xs/\YH xs i=some v/\Q v H
def rIxS:R2:=fun x y H Q=>∃ z i c,x=.str z/\y=.int i/\z.length<=Qi/\YH z.cps.toList i=some c/\Q (.str ⟨#[c]⟩) H
theorem ZB:IxR X (rIxL X.K):=by
 intro value slice pins s σ H x y v u Q I rx ry h hs
 obtain ⟨p,xs,i,z,rfl,rfl,hq,he,q⟩:=h
 cases rx
 obtain ⟨t,rfl⟩:=ry
 obtain ⟨its,r,pl,hz⟩:=I.list hq
 obtain ⟨j,h1,h2,h3,h4,h5⟩:=Zcr he
 obtain ⟨w,ew,rw'⟩:=r.get h2
 have hl:=r.length
 have hn:=Uh
 have fin:EP X pins σ Q w s:=⟨z,H,I,rw',q⟩
 by_cases h0:0<=i
 ·have hj:i.toNat=j:=by
   rw [NI h0 h5] at h1
   exact QG h1
  exact item_listR pl.isList h0 (by omega) (by rw [hj];simpa using ew) fin hs
 ·have hj:(i+(its.toArray.size:Int)).toNat=j:=by
   rw [OX (by omega) h4] at h1
   rw [size_toArray,<- hl]
   exact QG h1
  exact Ph (x:=w) pl.isList.typeIs slot_list_getitem.lookup
   (wpAny_getItem_list_neg (Q:=fun r s'=>r=w/\EP X pins σ Q r s') pl.isList (by omega) (by rw [size_toArray]<;>omega) (by omega) (by rw [hj];simpa using ew) ⟨rfl,fin⟩) hs
theorem YF:IxR X (rIxT X.K):=by
 intro value slice pins s σ H x y v u Q I rx ry h hs
 obtain ⟨p,xs,i,z,rfl,rfl,hq,he,q⟩:=h
 cases rx
 obtain ⟨t,rfl⟩:=ry
 obtain ⟨its,r,pl,hz⟩:=I.tuple hq
 obtain ⟨j,h1,h2,h3,h4,h5⟩:=Zcr he
 obtain ⟨w,ew,rw'⟩:=r.get h2
 have hl:=r.length
 have hn:=Uh
 have fin:EP X pins σ Q w s:=⟨z,H,I,rw',q⟩
 exact Ph (x:=w) pl.typeIs Gq.lookup
  (getItem_tuple (j:=j) (Q:=fun r s'=>r=w/\EP X pins σ Q r s') pl (by omega) (by omega) (by rw [size_toArray,<- hl];exact h1) (by simpa using ew) ⟨rfl,fin⟩) hs
theorem Zbf:IxR X rIxS:=by
 intro value slice pins s σ H x y v u Q I rx ry h hs
 obtain ⟨z,i,c,rfl,rfl,hz,he,q⟩:=h
 obtain ⟨t,rfl⟩:=rx
 obtain ⟨t',rfl⟩:=ry
 obtain ⟨j,h1,h2,h3,h4,h5⟩:=Zcr he
 have hl:z.cps.toList.length=z.length:=by simp [Str.length]
 rw [hl] at h1 h4 h5
 have hn:=Uh
 exact tail_any (typeIs_str s z t) slot_str_getitem.lookup (getItem_str (c:=c) (by
  have e1:decide (i < -(2 ^ 63:Int))=false:=decide_eq_false (by omega)
  have e2:decide (i ≥ 2 ^ 63)=false:=decide_eq_false (by omega)
  rw [e1,e2,Bool.or_false]) (by rw [h1];simpa using h2) ⟨.str ⟨#[c]⟩,H,I.tok _,⟨_,rfl⟩,q⟩) hs
theorem ZfV (its:List Qb)(n j:Nat)(u:Qb):QZ (·.setIfInBounds j u) { cls:=.type "list",data:=.seq its.toArray n }={ cls:=.type "list",data:=.seq (its.set j u).toArray n }:=by
 simp [QZ]
theorem Inv.lst {pins:List (Addr×Obj)}{σ:St}{H:Hp}{s:Qe}{p:Addr}{xs:List V}(I:Inv X pins σ H s)(h:H p=some (.lst xs)) :
 ∃ (its:List Qb) (n:Nat),Vals xs its/\s.heap.get? p=some { cls:=.type "list",data:=.seq its.toArray n }/\xs.length<=sizeLine:=by
 obtain ⟨z,its,n,r,e⟩:=I.hok p _ h
 exact ⟨its,n,r,e,z⟩
theorem Inv.lstUpd {pins:List (Addr×Obj)}{σ:St}{H:Hp}{s:Qe}{p:Addr}{xs ys:List V}{its its':List Qb}{n n':Nat}{f:Obj->Obj}(I:Inv X pins σ H s)(h:H p=some (.lst xs))
 (ho:s.heap.get? p=some { cls:=.type "list",data:=.seq its.toArray n }) (hf:f { cls:=.type "list",data:=.seq its.toArray n }={ cls:=.type "list",data:=.seq its'.toArray n' }) (r:Vals ys its') (hz:ys.length<=Qi) (t:Nat) :
 Inv X pins σ (upd H p (.lst ys)) { s with heap:=s.heap.update p f,toks:=t }:=by
 have e:(s.heap.update p f).get? p=some { cls:=.type "list",data:=.seq its'.toArray n' }:=by
  rw [Js f ho (by rw [hf]<;>rfl),hf]
 refine I.write (x:=p) (e:=p) (by rw [h];trivial) (.inl rfl) (fun b u hb q=>(Gm _ _ (Gv hb)).trans q) ⟨_,e⟩ ?_
 exact ⟨hz,its',n',r,e⟩
def Zpv:V->V->V->Hp->(Hp->Prop)->Prop:=fun o i v H Q=>∃ p xs k j,o=.ref p/\i=.int k/\H p=some (.lst xs)/\XI xs.length k=some j/\Q (upd H p (.lst (xs.set j v)))
theorem Xi:PSet X Zpv:=by
 intro pins s σ H o i v ov iv u Q I ro ri rv h
 obtain ⟨p,xs,k,j,rfl,rfl,hp,hj,q⟩:=h
 cases ro
 obtain ⟨t,rfl⟩:=ri
 obtain ⟨its,n,r,ho,hz⟩:=I.lst hp
 obtain ⟨h1,h2,h3,h4⟩:=Zcg hj
 have hl:=r.length
 have hn:=Uh
 have I':Inv X pins σ (upd H p (.lst (xs.set j v))) { s with heap:=s.heap.update p (QZ (·.setIfInBounds j u)) } :=
  I.lstUpd hp ho (ZfV its n j u) (r.set rv j) (by rw [length_set];exact hz) s.toks
 by_cases h0:0<=k
 ·have hk:k.toNat=j:=by
   rw [NI h0 h4] at h1
   exact QG h1
  exact PySem.W.ki_setAt ho h0 (by omega) (by rw [size_toArray,<- hl];exact h4) (by rw [hk];exact ⟨_,I',q⟩)
 ·have hk:(k+(its.toArray.size:Int)).toNat=j:=by
   rw [OX (by omega) h3] at h1
   rw [size_toArray,<- hl]
   exact QG h1
  exact PySem.W.ki_setBack ho (by omega) (by rw [size_toArray,<- hl];exact h3) (by omega) (by rw [hk];exact ⟨_,I',q⟩)
theorem ZO:Yz X (.builtin "len") (fun xs H Q=>∃ p ys,xs=[.ref p]/\(SqL X.K H p ys\/SqT X.K H p ys)/\Q (.int ys.length) H):=by
 intro pins s σ H xs us Q I r h
 obtain ⟨p,ys,rfl,hq,q⟩:=h
 obtain ⟨u,rfl,rx⟩:=Yt r
 cases rx
 have hn:=Uh
 rcases hq with hq | hq
 ·obtain ⟨its,r',pl,hz⟩:=I.list hq
  have hlen:=r'.length
  exact RX pl.isList (by simp only [size_toArray]<;>omega) ⟨.int ys.length,H,I.tok _,⟨s.toks+1,by rw [size_toArray,hlen]⟩,q⟩
 ·obtain ⟨its,r',pl,hz⟩:=I.tuple hq
  have hlen:=r'.length
  exact len_tuple pl (by simp only [size_toArray]<;>omega) ⟨.int ys.length,H,I.tok _,⟨s.toks+1,by rw [size_toArray,hlen]⟩,q⟩
theorem Uk:Yz X (.type "list") (fun xs H Q=>∃ p ys,xs=[.ref p]/\(SqL X.K H p ys\/SqT X.K H p ys)/\∀ l,H l=none->Q (.ref l) (upd H l (.lst ys))):=by
 intro pins s σ H xs us Q I r h
 obtain ⟨p,ys,rfl,hq,q⟩:=h
 obtain ⟨u,rfl,rx⟩:=Yt r
 cases rx
 have fin:∀ (its:List Qb),Vals ys its->ys.length<=Qi->∀ (h':Heap) (c':Nat),(∀ b o',s.heap.get? b=some o'->h'.get? b=some o') ->
     h'.get? s.heap.objs.size=some { cls:=.type "list",dict:=none,data:=.seq its.toArray c',slots:=#[] }->EP X pins σ Q (.ref s.heap.objs.size) { s with heap:=h' }:=fun its r' hz h' c' kp e =>
   ⟨.ref s.heap.objs.size,_,I.laid (t':=s.toks) kp (Qh _) (show ObjOk X.prog X.w _ h' _ (.lst ys) from ⟨hz,its,c',r',e⟩),rfl,q _ (I.hok.fresh (Qh _))⟩
 rcases hq with hq | hq
 · obtain ⟨its,r',pl,hz⟩:=I.list hq
   have hlen:=r'.length
   obtain ⟨o,ho,hc,n,hd⟩:=pl.isList
   exact call_list_seq p (.inl rfl) ho hc hd (fun h' c' kp e=>fin its r' hz h' c' kp e) (by simp only [size_toArray]<;>omega)
 · obtain ⟨its,r',pl,hz⟩:=I.tuple hq
   have hlen:=r'.length
   obtain ⟨o,ho,hc,n,hd⟩:=pl
   exact call_list_seq p (.inr rfl) ho hc hd (fun h' c' kp e=>fin its r' hz h' c' kp e) (by simp only [size_toArray]<;>omega)
theorem Zdd:Yz X (.type "tuple") (fun xs H Q=>∃ p ys,xs=[.ref p]/\((SqL X.K H p ys/\∀ l,H l=none->Q (.ref l) (upd H l (.tup ys)))\/(SqT X.K H p ys/\Q (.ref p) H))):=by
 intro pins s σ H xs us Q I r h
 obtain ⟨p,ys,rfl,h⟩:=h
 obtain ⟨u,rfl,rx⟩:=Yt r
 cases rx
 rcases h with ⟨hq,q⟩ | ⟨hq,q⟩
 ·obtain ⟨its,r',pl,hz⟩:=I.list hq
  have hlen:=r'.length
  refine NP pl.isList (fun h' kp=>?_) (by simp only [size_toArray]<;>omega)
  have I1:Inv X pins σ H { s with heap:=h' }:=I.kept (t':=s.toks) kp
  have I2:Inv X pins σ (upd H h'.objs.size (.tup ys)) { s with heap:=h'.push { cls:=.type "tuple",data:=.seq its.toArray } } :=
   I1.laid (t':=s.toks) (fun b o e=>Qd _ e) (Qh _) (show ObjOk X.prog X.w _ _ _ (.tup ys) from ⟨hz,its,r',Tp _ _⟩)
  exact ⟨.ref h'.objs.size,_,I2,rfl,q _ (I1.hok.fresh (Qh _))⟩
 ·obtain ⟨its,r',pl,hz⟩:=I.tuple hq
  exact call_tuple_same pl ⟨.ref p,H,I,rfl,q⟩
def tyV (K:Qa)(T:String)(x:V)(H:Hp):Prop:=match x with
 | .str _=>T="str"
 | .int _=>T="int"
 | .ref p=>(T="list"/\∃ xs,SqL K H p xs)\/(T="tuple"/\∃ o,K.lookup p=some o/\o.cls=.type "tuple"/\o.dict=none) \/
     (T="dict"/\((∃ kvs,H p=some (.dK kvs))\/∃ kvs,H p=some (.dT kvs)))\/(T="set"/\∃ S n,H p=some (.set S n))
 | _=>False
theorem ZhI {pins:List (Addr×Obj)}{σ:St}{H:Hp}{s:Qe}{T:String}{x:V}{v:Qb}(I:Inv X pins σ H s)(r:RelV x v)(ty:tyV X.K T x H) :
 s.TypeIs v T/\∀ a,v=.ref a->∃ ob,s.heap.get? a=some ob/\ob.dict=none:=by
 cases x with
 | str z =>
  obtain ⟨t,rfl⟩:=r
  cases (show T="str" from ty)
  exact ⟨typeIs_str s z t,fun _ e=>nomatch e⟩
 | int i =>
  obtain ⟨t,rfl⟩:=r
  cases (show T="int" from ty)
  exact ⟨typeIs_int s i t,fun _ e=>nomatch e⟩
 | ref p =>
  cases r
  rcases ty with ⟨rfl,xs,hq⟩ | ⟨rfl,o,hk,hc,hd⟩ | ⟨rfl,hk⟩ | ⟨rfl,S,n,hk⟩
  ·obtain ⟨its,_,pl,_⟩:=I.list hq
   refine ⟨pl.isList.typeIs,fun a e=>?_⟩
   cases e
   obtain ⟨o,n,e,c,hd,_⟩:=pl
   exact ⟨o,e,hd⟩
  ·refine ⟨⟨o,I.kIn p o hk,hc⟩,fun a e=>?_⟩
   cases e
   exact ⟨o,I.kIn _ o hk,hd⟩
  ·have z:∃ o,s.heap.get? p=some o/\o.ExactDict:=by
    rcases hk with ⟨kvs,hk⟩ | ⟨kvs,hk⟩
    ·obtain ⟨_,_,_,_,o,_,_,e,ex,_⟩:=I.hok p _ hk
     exact ⟨o,e,ex⟩
    ·obtain ⟨_,_,_,_,o,_,_,e,ex,_⟩:=I.hok p _ hk
     exact ⟨o,e,ex⟩
   obtain ⟨o,e,ex⟩:=z
   refine ⟨⟨o,e,ex.1⟩,fun a e2=>?_⟩
   cases e2
   exact ⟨o,e,ex.2.1⟩
  ·obtain ⟨o,_,_,_,e,ex,_⟩:=I.hok p _ hk
   refine ⟨⟨o,e,ex.1⟩,fun a e2=>?_⟩
   cases e2
   exact ⟨o,e,ex.2.1⟩
 | _=>exact QN ty
def tBM0 (K:Qa)(T:String)(r:V->List V->Hp->VK->Prop)(to:TE):TE:=fun σ H Q=>to σ H fun x H1=>tyV K T x H1/\r x [] H1 Q
def tBM (K:Qa)(T:String)(r:V->List V->Hp->VK->Prop)(to:TE)(t:TA):TE:=fun σ H Q=>to σ H fun x H1=>tyV K T x H1/\t σ H1 fun xs H2=>r x xs H2 Q
variable {o e:Expr}{es:List Expr}{to:TE}{t:TA}{name:Str}{apos cpos:Pos}{T id:String}{r:V->List V->Hp->VK->Prop}
theorem Zho (pa:PlainAttrs T)(slot:Slot T name id)(hty:typeOf (.builtin id)=pure (.type "method_descriptor"))(hm:MtR X id r)(ho:PE X o to)
 (hbase:Jq o name X.env (eval o X.env)=eval o X.env:=by rfl) (hline:(apos.endLine == cpos.line)=true:=by rfl):PE X (.Call (.Attribute o name apos) [] [] cpos) (tBM0 X.K T r to):=by
 intro pins s σ H Q I h
 refine wpAny_Call_method0_late hbase hline (Zs (ho pins s σ H _ I h) fun v s1 ⟨x,H1,I1,r1,ty,q1⟩=>?_)
 obtain ⟨h1,h2⟩:=ZhI I1 r1 ty
 exact ⟨T,id,pa,slot,hty,h1,h2,Pi rfl (PySem.evalArgs_none (hm pins s1 σ H1 x [] v [] Q I1 r1 .nil q1))⟩
theorem YS (pa:PlainAttrs T)(slot:Slot T name id)(hty:typeOf (.builtin id)=pure (.type "method_descriptor"))(hm:MtR X id r)(ho:PE X o to)(ha:PA X (e::es) t)
 (hbase:Jq o name X.env (eval o X.env)=eval o X.env:=by rfl)
 (hfew:((Jg cpos (QE (e::es) X.env)).all (fun x=>!x.1)&&(PQ cpos (Jk [] X.env)).all (fun x=>x.1.isSome)
  && decide ((e::es).length+([]:List OT).length+(if ([]:List OT).isEmpty then 0 else 1) < 30))=true:=by rfl)
 (hline:(apos.endLine == cpos.line)=true:=by rfl) (hs:QE (e::es) X.env=(false,eval e X.env)::QE es X.env:=by rfl) (hplain:(Jg cpos (QE es X.env)).any (·.1)=false:=by rfl) :
 PE X (.Call (.Attribute o name apos) (e::es) [] cpos) (tBM X.K T r to t):=by
 intro pins s σ H Q I h
 refine wpAny_Call_method_late hbase hfew hline rfl (Zs (ho pins s σ H _ I h) fun v s1 ⟨x,H1,I1,r1,ty,q1⟩=>?_)
 obtain ⟨h1,h2⟩:=ZhI I1 r1 ty
 refine ⟨T,id,pa,slot,hty,h1,h2,?_⟩
 have hA:=ha cpos pins s1 σ H1 _ I1 q1
 rw [hs] at hA ⊢
 refine Pi (by show (false || (Jg cpos (QE es X.env)).any (·.1))=false;rw [hplain]<;>rfl) (Rz ?_)
 exact Zs hA fun us s2 ⟨vs,H2,I2,r2,q2⟩=>hm pins s2 σ H2 x vs v us Q I2 r1 r2 q2
end
def MtM (X:Cx)(id:String)(r:V->List V->Hp->VK->Prop):Prop :=
 ∀ (pins:List (Addr×Obj)) (s:Qe) (σ:St) (H:Hp) (x:V) (xs:List V) (v:Qb) (us:List Qb) (Q:VK),Inv X pins σ H s->RelV x v->Vals xs us->r x xs H Q ->
  Qq (Qt X.prog X.w) X.A (call (.builtin id) (v::us)) (EP X pins σ Q) X.xe s
theorem Vals.one:∀{x:V}{us:List Qb},Vals [x] us->∃ u,us=[u]/\RelV x u
 | _,_,.cons r .nil=>⟨_,rfl,r⟩
theorem Vals.zero:∀{us:List Qb},Vals [] us->us=[]
 | _,.nil=>rfl
theorem Vals.dropLast {xs:List V}{us:List Qb}(h:Vals xs us):Vals xs.dropLast us.dropLast:=by
 induction h with
 | nil=>exact .nil
 | cons r t ih =>
  cases t with
  | nil=>exact .nil
  | cons q t'=>exact .cons r ih
theorem Vals.eraseIdx:∀{xs:List V}{us:List Qb}(i:Nat),Vals xs us->Vals (xs.eraseIdx i) (us.eraseIdx i)
 | _,_,_,.nil=>.nil
 | _,_,0,.cons _ t=>t
 | _,_,i+1,.cons r t=>.cons r (Vals.eraseIdx i t)
theorem Vals.rep {xs:List V}{us:List Qb}(h:Vals xs us):∀ k:Nat,Vals (Qy k xs).flatten (Qy k us).flatten
 | 0=>.nil
 | k+1=>by
  rw [replicate_succ,replicate_succ,Jx,Jx]
  exact Vals.append h (Vals.rep h k)
theorem ZfQ {α:Type}(l:List α):l.eraseIdx (l.length - 1)=l.dropLast:=by
 induction l with
 | nil=>rfl
 | cons a r ih =>
  cases r with
  | nil=>rfl
  | cons b r =>
   have e:(a::b::r).length - 1=((b::r).length - 1)+1:=by
    have h1:(a::b::r).length=r.length+2:=rfl
    have h2:(b::r).length=r.length+1:=rfl
    omega
   rw [e,Pa,ih]
   all_goals rfl
theorem ZcL {α:Type}:∀(l:List α)(i:Nat),(l.eraseIdx i).length<=l.length
 | [],_=>Qh _
 | _::_,0=>Gu _
 | _::r,i+1=>Nat.succ_le_succ (ZcL r i)
theorem Zda (its:List Qb):∀(k:Nat)(acc:List Qb),
 OD (fun x1 x2=>x1++x2) acc.toArray (Qy k its.toArray)=(acc++(Qy k its).flatten).toArray
 | 0,acc=>by simp
 | k + 1,acc=>by
  have e:acc.toArray++its.toArray=(acc++its).toArray:=by simp
  have e2:(acc++its)++(Qy k its).flatten=acc++(Qy (k+1) its).flatten:=by
   rw [replicate_succ,Jx,append_assoc]
  rw [<- e2,<- Zda its k (acc++its),<- e,replicate_succ,Rf]
section
variable {X:Cx}{pins:List (Addr×Obj)}{σ:St}{H:Hp}{s:Qe}{l b:Addr}{xs ys zs:List V}
theorem Inv.lset {its its':List Qb}{n:Nat}{f:Array Qb->Array Qb}{t':Nat}(I:Inv X pins σ H s)(hH:H l=some (.lst xs))
 (e:s.heap.get? l=some { cls:=.type "list",data:=.seq its.toArray n }) (hf:f its.toArray=its'.toArray) (hv:Vals ys its') (hz:ys.length<=Qi) :
 Inv X pins σ (upd H l (.lst ys)) { s with heap:=s.heap.update l (QZ f),toks:=t' }:=by
 have q:=PySem.IsL.update e f
 rw [hf] at q
 refine I.write (x:=l) (e:=l) (by rw [hH];exact trivial) (.inl rfl) (fun b' u hb hu=>(Gm s.heap (QZ f) (Gv hb)).trans hu) ⟨_,q⟩ ?_
 exact ⟨hz,its',_,hv,q⟩
theorem Inv.lnew {its:List Qb}{t':Nat}(I:Inv X pins σ H s)(hv:Vals ys its)(hz:ys.length<=Qi) :
 Inv X pins σ (upd H s.heap.objs.size (.lst ys)) { s with heap:=s.heap.push { cls:=.type "list",data:=.seq its.toArray },toks:=t' } :=
 I.laid (fun _ _ q=>Qd _ q) (Qh _) ⟨hz,its,0,hv,Qs _ rfl⟩
theorem Inv.fresh (I:Inv X pins σ H s):H s.heap.objs.size=none:=I.hok.fresh (Qh _)
theorem Inv.lstM (I:Inv X pins σ H s)(hH:H l=some (.lst xs)):xs.length<=Qi/\∃ (its:List Qb) (n:Nat),Vals xs its/\xs.length=its.length/\s.heap.get? l=some { cls:=.type "list",data:=.seq its.toArray n }:=by
 obtain ⟨z,its,n,r,e⟩:=I.hok l _ hH
 exact ⟨z,its,n,r,r.length,e⟩
theorem ZdY {n:Nat}(h:n<=Qi):Je n=false:=by
 unfold Je
 exact decide_eq_false (by omega)
end
section
variable {X:Cx}
def Zle:V->List V->Hp->VK->Prop:=fun x vs H Q=>∃ l xs y,x=.ref l/\vs=[y]/\H l=some (.lst xs)/\xs.length < Qi/\Q .non (upd H l (.lst (xs++[y])))
theorem Ys:MtM X "list.append" Zle:=by
 intro pins s σ H x vs v us Q I rx rv h
 obtain ⟨l,xs,y,rfl,rfl,hH,hz,q⟩:=h
 cases rx
 obtain ⟨u,rfl,ru⟩:=rv.one
 obtain ⟨z,its,n,r,hl,e⟩:=I.lstM hH
 refine JH F.slot_list_append ⟨_,e,rfl⟩ F.entry_list_append (F.args_list_append_2 _ _) (PySem.list_append l its.toArray n u (by rw [size_toArray];omega)) ⟨e,?_⟩
 refine ⟨.non,_,I.lset (its':=its++[u]) hH e (by simp) (r.append (.cons ru .nil)) ?_,rfl,q⟩
 rw [length_append,length_singleton]
 omega
def ZlV:V->List V->Hp->VK->Prop:=fun x vs H Q=>∃ l b xs zs,x=.ref l/\vs=[.ref b]/\H l=some (.lst xs)/\H b=some (.lst zs)/\xs.length+zs.length<=Qi/\Q .non (upd H l (.lst (xs++zs)))
theorem ZhP:MtM X "list.extend" ZlV:=by
 intro pins s σ H x vs v us Q I rx rv h
 obtain ⟨l,b,xs,zs,rfl,rfl,hH,hB,hz,q⟩:=h
 cases rx
 obtain ⟨u,rfl,ru⟩:=rv.one
 cases ru
 obtain ⟨z,its,n,r,hl,e⟩:=I.lstM hH
 obtain ⟨z2,its2,n2,r2,hl2,e2⟩:=I.lstM hB
 have hsz:its.toArray.size+its2.toArray.size<=sizeLine:=by rw [size_toArray,size_toArray];omega
 have hlong:¬ (!its.toArray.isEmpty&&Je (its.toArray.size+its2.toArray.size))=true:=by
  rw [ZdY hsz,Bool.and_false]
  exact QH
 refine JH F.slot_list_extend ⟨_,e,rfl⟩ F.entry_list_extend (F.args_list_extend_2 _ _)
  (AutoSeq1.list_extend_list_list_0 l its.toArray n b its2.toArray n2 hlong (by rw [size_toArray];omega) (by omega)) ⟨e,e2,?_⟩
 refine ⟨.non,_,I.lset (its':=its++its2) hH e (by simp) (r.append r2) ?_,rfl,q⟩
 rw [length_append]
 omega
def rPop:V->List V->Hp->VK->Prop:=fun x vs H Q=>∃ l xs y,x=.ref l/\vs=[]/\H l=some (.lst xs)/\xs[xs.length - 1]?=some y/\Q y (upd H l (.lst xs.dropLast))
theorem ZmE:MtM X "list.pop" rPop:=by
 intro pins s σ H x vs v us Q I rx rv h
 obtain ⟨l,xs,y,rfl,rfl,hH,hy,q⟩:=h
 cases rx
 have hus:=rv.zero
 subst hus
 obtain ⟨z,its,n,r,hl,e⟩:=I.lstM hH
 obtain ⟨u,hu,ru⟩:=r.get hy
 have hy':its.toArray[its.toArray.size - 1]?=some u:=by
  show its.toArray[its.length - 1]?=some u
  rw [<- Jt,<- hl]
  exact hu
 refine JH JX ⟨_,e,rfl⟩ Np (F.args_list_pop_1 _) (MeetsSeq.list_pop_last l its.toArray n u hy' (by rw [size_toArray];omega)) ⟨e,?_⟩
 refine ⟨y,_,I.lset (its':=its.dropLast) hH e ?_ r.dropLast ?_,ru,q⟩
 ·show its.toArray.eraseIdxIfInBounds (its.toArray.size - 1)=its.dropLast.toArray
  rw [size_toArray,Pu,ZfQ]
 ·rw [RA]
  omega
def Zmy:V->List V->Hp->VK->Prop:=fun x vs H Q=>∃ l xs i k y,x=.ref l/\vs=[.int i]/\H l=some (.lst xs)/\-(2 ^ 63)<=i/\i < 2 ^ 63/\RQ i xs.length=some k/\xs[k]?=some y/\Q y (upd H l (.lst (xs.eraseIdx k)))
theorem ZiZ:MtM X "list.pop" Zmy:=by
 intro pins s σ H x vs v us Q I rx rv h
 obtain ⟨l,xs,i,k,y,rfl,rfl,hH,h1,h2,hk,hy,q⟩:=h
 cases rx
 obtain ⟨u,rfl,ru⟩:=rv.one
 obtain ⟨t,rfl⟩:=ru
 obtain ⟨z,its,n,r,hl,e⟩:=I.lstM hH
 obtain ⟨w,hw,rw'⟩:=r.get hy
 refine JH JX ⟨_,e,rfl⟩ Np (F.args_list_pop_2 _ _)
  (MeetsSeq.list_pop_at l its.toArray n i t k w (fitsIndex_both h1 h2) (by rw [size_toArray,<- hl];exact hk) (by rw [<- Jt];exact hw) (by rw [size_toArray];omega)) ⟨e,?_⟩
 refine ⟨y,_,I.lset (its':=its.eraseIdx k) hH e ?_ (r.eraseIdx k) ?_,rw',q⟩
 ·show its.toArray.eraseIdxIfInBounds k=(its.eraseIdx k).toArray
  rw [Pu]
 ·have:=ZcL xs k
  omega
def rCat:R2:=fun x y H Q=>∃ l b xs zs,x=.ref l/\y=.ref b/\H l=some (.lst xs)/\H b=some (.lst zs)/\xs.length+zs.length<=Qi/\∀ p,H p=none->Q (.ref p) (upd H p (.lst (xs++zs)))
theorem ZbA:Xe X (Jn .Add) rCat:=by
 intro pins s σ H x y v u Q I rx ry h
 obtain ⟨l,b,xs,zs,rfl,rfl,hH,hB,hz,q⟩:=h
 cases rx
 cases ry
 obtain ⟨z,its,n,r,hl,e⟩:=I.lstM hH
 obtain ⟨z2,its2,n2,r2,hl2,e2⟩:=I.lstM hB
 refine PySem.P.add_list e e2 ?_ (by rw [size_toArray,size_toArray];omega)
 have ea:its.toArray++its2.toArray=(its++its2).toArray:=by simp
 rw [ea]
 exact ⟨.ref _,_,I.lnew (t':=s.toks) (r.append r2) (by rw [length_append];omega),rfl,q _ I.fresh⟩
def rRep:R2:=fun x y H Q=>∃ l k xs,x=.ref l/\y=.int k/\H l=some (.lst xs)/\-(2 ^ 63)<=k/\k < 2 ^ 63/\xs.length * k.toNat<=Qi /\
 ∀ p,H p=none->Q (.ref p) (upd H p (.lst (Qy k.toNat xs).flatten))
theorem ZlN {α:Type}(xs:List α)(k:Nat):(Qy k xs).flatten.length=k * xs.length:=by
 induction k with
 | zero=>simp
 | succ k ih=>rw [replicate_succ,Jx,length_append,ih,Nat.succ_mul,Nat.add_comm]
theorem ZnC:Xe X (Jn .Mult) rRep:=by
 intro pins s σ H x y v u Q I rx ry h
 obtain ⟨l,k,xs,rfl,rfl,hH,h1,h2,hz,q⟩:=h
 cases rx
 obtain ⟨t,rfl⟩:=ry
 obtain ⟨z,its,n,r,hl,e⟩:=I.lstM hH
 have hlen:its.toArray.size * k.toNat<=sizeLine:=by rw [size_toArray,<- hl];exact hz
 have hcap:¬ its.toArray.size * k.toNat > (2 ^ 63 - 1) / 8:=by
  have:(Qi:Nat)<=(2 ^ 63 - 1) / 8:=by decide
  omega
 have hfit:¬ (!Builtin.List.listFitsIndex k)=true:=by
  rw [fitsIndex_both h1 h2]
  exact QH
 have hlong:¬ Je (its.toArray.size * k.toNat)=true:=by
  rw [ZdY hlen]
  exact QH
 have hnew:OD (fun x1 x2=>x1++x2) #[] (Qy (if its.toArray.isEmpty=true then 0 else k.toNat) its.toArray)=(Qy k.toNat its).flatten.toArray:=by
  have f0:∀ m:Nat,OD (fun x1 x2=>x1++x2) #[] (Qy m its.toArray)=(Qy m its).flatten.toArray:=fun m=>by
   have:=Zda its m []
   rw [List.nil_append] at this
   exact this
  rw [f0]
  cases its with
  | nil=>simp
  | cons a r'=>rw [if_neg (by simp)]
 refine wpAny_binaryOp_repeat_ref (T:="list") (U:="int") (by decide) ⟨_,e,rfl⟩ (fun s'=>typeIs_int s' k t) noFill_list_mul F.fills_int_mul NQ repeat_list F.slot_int_index.lookup
  (JH NQ (typeIs_int s k t) F.entry_int_rmul (F.args_int_rmul_2 _ _) (int___rmul___int_list k t l its.toArray n)
   ⟨e,rfl,⟨_,e,rfl⟩,JH F.slot_list_mul ⟨_,e,rfl⟩ F.entry_list_mul (F.args_list_mul_2 _ _) (AutoListH.list___mul___list_int_3 l its.toArray n k t hfit hcap hlong) ⟨e,?_⟩⟩)
 rw [hnew]
 exact ⟨.ref _,_,I.lnew (t':=s.toks) (r.rep k.toNat) (by rw [ZlN,Nat.mul_comm];exact hz),rfl,q _ I.fresh⟩
end
section
variable {prog:Qk}{w:Qv}{A:QF}{E:Qb->Qe->Prop}{s:Qe}
end
section
variable {X:Cx}
end
end L2
namespace Att
open PySem PySem.W PySem.Calls PyProof.Rows
theorem Zbr {P:Params}{h:Heap}:∀(ns:List Int)(vs:List Qb),WellAll P h vs (ns.map WData.int)->NZ vs ns:=by
 intro ns
 induction ns with
 | nil =>
  intro vs w
  rw [SW] at w
  cases w
  exact .nil
 | cons n ns ih =>
  intro vs w
  rw [map_cons] at w
  cases w with
  | cons a b =>
   cases a
   exact .cons _ _ (ih _ b)
theorem Zhe {l:OpenLaw}{n:Nat}(hn:l.most=some n){P:Params}{h:Heap}{args:List WData}{vals:List Qb}
 (hpre:l.row.toRowW.claim.pre args=true) (hwl:WellAll P h vals args) :
 ∃ a vs ns,vals=[Qo a]/\args=[WData.list (ns.map WData.int)]/\h.get? a=some { cls:=.type "list",data:=.seq vs.toArray }/\NZ vs ns/\ns.length<=n:=by
 have hsh:WShape.hasAll [] args [.list .int]=true:=(pre_splitW hpre).1
 have hc:l.pre.holds [] { args:=args }=true:=(pre_splitW hpre).2
 obtain ⟨d,r,rfl,h1,h2⟩:=hasAllW_cons hsh
 obtain rfl:=hasAllW_nil h2
 obtain ⟨xs,rfl,h3⟩:=hasW_list h1
 obtain ⟨ns,rfl⟩:=items_int h3
 have hlen:ns.length<=n:=by
  unfold OpenLaw.pre at hc
  have h4:(WTm.not (.lt (.lit (.int (n:Int))) (.len (.arg 0)))).holds [] { args:=[.list (ns.map .int)] }=true:=by
   have h4:=(holds_andW hc).1
   rw [hn] at h4
   exact h4
  have h5:=condW_of h4 (w_not (w_lt w_lit (w_len_list (w_arg rfl))))
  rw [length_map] at h5
  refine Nat.le_of_not_lt fun q=>?_
  have q':(n:Int) < ((ns.length:Nat):Int):=by omega
  first
   | (rw [decide_eq_true q'] at h5;exact absurd h5 (by decide))
   | (simp at h5;omega)
 cases hwl with
 | cons w1 w2 =>
  cases w2
  cases w1 with
  | list ho hall=>exact ⟨_,_,ns,rfl,rfl,ho,Zbr ns _ hall,hlen⟩
theorem Zim (l:OpenLaw)(args:List WData):l.row.toRowW.claim.post args (.bool true) args=true :=
 postW_of (r:=l.row.toRowW) (X:=(true == true))
  (show WShape.has [] (.bool true) .bool=true by first | rfl | decide | simp [WShape.has,WShape.arms,WShape.armsAll])
  (show (WTm.eq .res (.lit (.bool true))).value [] { args:=args,res:=some (.bool true),after:=args }=some (.bool (true == true)) from w_eq_bool (w_res rfl) w_lit) rfl
theorem attach_call {l:OpenLaw}{n:Nat}{q:Qk}{loose:List Str}{XP:(Str->Option Qb)->Heap->Prop}{YP:Qv->Heap->Prop}{d:DefRec}
 (hn:l.most=some n) (hdf:d.params.defaults=[])
 (call:∀ (w:Qv) (s₀ s₁:Qe) (mg mb:Str->Option Qb) (fa:Addr) (o:Obj) (pm cd doc:Qb) (a:Addr) (vs:List Qb) (ns:List Int),
  Ground q loose [] XP w s₀ mg mb s₁.heap->YP w s₁.heap ->
  s₁.heap.get? fa=some o->o.data=.func (docDef d.name d.params d.body d.scope pm cd doc)->s₁.heap.CodeRec cd d.name->mg d.name=some (.ref fa) ->
  s₁.heap.get? a=some { cls:=.type "list",data:=.seq vs.toArray }->NZ vs ns->ns.length<=n->s₁.gens=#[] ->
  JU (Qt l.prog w) RS (.call (.ref fa) ⟨[.ref a],[]⟩) (fun r s'=>r=.ok (.ret (.bool true))/\OldK s₁.heap s'.heap/\s'.os=s₁.os/\Tj s'.gens) s₁) :
 WalkO q loose XP YP l.row.toRowW d [] (fun f vs=>PySem.call f vs):=by
 intro w s₀ s₁ mg mb G Y fa o pm cd doc dV kV ho hd hcd hD hmg hg args vals as hpre hlay hrd hwl hlo
 obtain rfl:dV=.none:=Dflts.none hD hdf
 obtain rfl:kV=.none:=Dflts.noKw hD
 obtain ⟨a,vs,ns,rfl,rfl,hobj,hints,hlen⟩:=Zhe hn hpre hwl
 refine enter_call (GA (call w s₀ s₁ mg mb fa o pm cd doc a vs ns G Y ho (fd_plain hd) hcd hmg hobj hints hlen hg) fun r s' hq=>?_)
 obtain ⟨rfl,h2,h3,h4⟩:=hq
 exact ⟨.inl ⟨.bool true,.bool true,[],rfl,fun _=>rfl,.bool true,Zim l _,fun _=>⟨List.Pairwise.nil,fun _ hm=>(nomatch hm)⟩⟩,h2,h3,h4⟩
section
variable {prog:Qk}{w:Qv}{A:QF}{E:Qb->Qe->Prop}{s:Qe}{K:Frag}
end
end Att
namespace L2
open PySem PySem.Spec PyProof.Rows
theorem ZcR:∀{vs:List Qb}{ns:List Int},NZ vs ns->Vals (ns.map V.int) vs
 | _,_,.nil=>.nil
 | _,_,.cons n t h=>.cons ⟨t,rfl⟩ (ZcR h)
def Zw (s:Stmt)(j:Nat):Stmt:=match s with
 | .ClassDef _ _ _ body _ _ _ _ _ _ _=>body.getD j (.Pass ⟨0,0,0,0⟩)
 | _=>.Pass ⟨0,0,0,0⟩
def Zaq (s:Stmt):Arguments:=match s with
 | .FunctionDef _ a _ _ _ _ _ _ _ _=>a
 | _=>{ posonlyargs:=[],args:=[],vararg:=none,kwonlyargs:=[],kw_defaults:=[],kwarg:=none,defaults:=[] }
def XB (s:Stmt):List Stmt:=match s with
 | .FunctionDef _ _ b _ _ _ _ _ _ _=>b
 | _=>[]
def Zj (s:Stmt):Scope:=match s with
 | .FunctionDef _ _ _ _ _ _ sc _ _ _=>sc
 | _=>{ kind:=.function,names:=[],isGenerator:=false,isCoroutine:=false }
abbrev ZC:Ux:=fun _ _ _ _ _ _=>False
abbrev E0:XK:=fun _ _ _=>False
theorem Zde {X:Cx}:Us ZC X E0:=fun _ _ _ _ _ _ _ h=>h.elim
structure Fun (K:Qa)(x qual:Str)(st:Stmt)(f:Addr)(fd:Qm):Prop where
 ex:∃ (oc:Qb) (od:Option Addr) (kV doc pm:Qb) (an:Option Addr) (cdv ct:Qb) (osl:Array (Option Qb)),
  fd=Pg x qual (Zaq st) (XB st) (Zj st) .none kV doc pm an cdv ct/\K.lookup f=some ⟨oc,od,.func fd,osl⟩/\Rx K cdv qual=true
 kp:GO K (.ref f)=true
section
variable {P:Qk}{w:Qv}{K:Qa}{mg:Str->Option Qb}{base:Heap}
theorem Fun.ok {x qual:Str}{st:Stmt}{f:Addr}{fd:Qm}{N ps:List Str}{k:Nat}{sp:Sp}(F:Fun K x qual st f fd)(S:Zm N ps (Zj st))(len:∀ vs H Q E,sp vs H Q E->vs.length=ps.length)
 (hbody:∀ (cdv:Qb) (A:QF) (outer:List Env) (s:Qe) (H:Hp) (vs:List V) (Q:VK) (E:XK),Room k (A.deeper (PB qual (Zj st) s.heap.objs.size f cdv))->sp vs H Q E ->
  ∃ t,PSs (ZQ ZC P w K mg base N qual (Zj st) f cdv A outer s H E).nox (XB st) t/\t { nx:=fun _ H'=>Q .non H',rt:=Q } (start N vs) H):FnOk P w K mg base ZC (k+1) f fd ps sp:=by
 obtain ⟨oc,od,kV,doc,pm,an,cdv,ct,osl,rfl,lk,hcd⟩:=F.ex
 refine ZfX lk hcd S len fun A outer s H vs Q E hr hsp=>?_
 obtain ⟨t,h,q⟩:=hbody cdv A outer s H vs Q E hr hsp
 exact ⟨t,h.nox,q⟩
theorem Fun.binds {x qual:Str}{st:Stmt}{f:Addr}{fd:Qm}{ps:List Str}(F:Fun K x qual st f fd)
 (h:∀ (kV doc pm:Qb) (an:Option Addr) (cdv ct:Qb) (us:List Qb),us.length=ps.length->Rv (Pg x qual (Zaq st) (XB st) (Zj st) .none kV doc pm an cdv ct) ⟨us,[]⟩=pure (ps.zip us)):Binds K fd ps []:=by
 obtain ⟨oc,od,kV,doc,pm,an,cdv,ct,osl,rfl,lk,hcd⟩:=F.ex
 exact .all (h kV doc pm an cdv ct)
end
theorem YL {A:QF}{k:Nat}(hr:Room k A):A.units+1 < cLine:=QO (Oa (by decide:1<=64) _) hr.units
theorem Ziu {n:Nat}(h:n<=1000):n < sizeLine:=QO h (by decide)
section
variable {X:Cx}
theorem pv (i:Nat){x:Str}{pos:Pos}(hN:X.N[i]?=some x:=by rfl)(hv:Vis X.env.scope x:=by first | exact Qz rfl | exact SX (Qz rfl) | exact SX (SX rfl))(hd:(x == ("__debug__":Str))=false:=by decide)
 (hcd:(x == ("__classdict__":Str))=false:=by decide):PE X (.Name x pos) (ZeB i):=ZhZ hN hv hd hcd
end
theorem ZP {A B:Prop}(h:B):if false=true then A else B:=by
 rw [if_neg QH]
 exact h
theorem Yk {A B:Prop}(h:A):if true=true then A else B:=by
 rw [if_pos rfl]
 exact h
theorem XJ {c A B:Prop}[Decidable c](h1:c->A)(h2:¬ c->B):if c then A else B:=by
 by_cases h:c
 ·rw [if_pos h]
  exact h1 h
 ·rw [if_neg h]
  exact h2 h
def Same (H H':Hp):Prop:=∀ b o,H b=some o->H' b=some o
theorem Same.refl (H:Hp):Same H H:=fun _ _ h=>h
theorem Same.trans {H H1 H2:Hp}(a:Same H H1)(b:Same H1 H2):Same H H2:=fun c o h=>b c o (a c o h)
section
variable {κ:Type}[DecidableEq κ]
def ZD (kvs:List (κ×V))(k:κ):Option V:=(kvs.find? fun kv=>decide (kv.1=k)).map (·.2)
def Yp (kvs:List (κ×V))(k:κ)(v:V):List (κ×V) :=
 if (kvs.any fun kv=>decide (kv.1=k))=true then kvs.map (fun kv=>if kv.1=k then (kv.1,v) else kv) else kvs++[(k,v)]
theorem YB {p:κ×V}{r:List (κ×V)}{k:κ}(e:p.1=k):ZD (p::r) k=some p.2:=by simp [ZD,find?_cons,e]
theorem YD {p:κ×V}{r:List (κ×V)}{k:κ}(e:¬ p.1=k):ZD (p::r) k=ZD r k:=by simp [ZD,find?_cons,e]
theorem Vt (k:κ):∀ kvs:List (κ×V),(kvs.any fun kv=>decide (kv.1=k))=(ZD kvs k).isSome
 | []=>rfl
 | p::r=>by
  rw [On]
  by_cases e:p.1=k
  ·simp only [YB e,decide_eq_true e,Bool.true_or,Option.isSome_some]
  ·rw [YD e,decide_eq_false e,Bool.false_or];exact Vt k r
theorem ZdC (k j:κ)(y:V):∀ kvs:List (κ×V),ZD (kvs.map fun kv=>if kv.1=k then (kv.1,y) else kv) j=(ZD kvs j).map fun x=>if j=k then y else x
 | []=>rfl
 | p :: r=>by
  have ih:=ZdC k j y r
  rw [map_cons]
  by_cases h:p.1=k
  ·rw [if_pos h]
   by_cases e:p.1=j
   ·rw [YB (p:=(p.1,y)) e,YB e,GU,if_pos (e.symm.trans h)]
   ·rw [YD (p:=(p.1,y)) e,YD e,ih]
  ·rw [if_neg h]
   by_cases e:p.1=j
   ·rw [YB (p:=p) e,YB e,GU,if_neg (fun z=>h (e.trans z))]
   ·rw [YD (p:=p) e,YD e,ih]
theorem Zdb (k j:κ)(y:V):∀ kvs:List (κ×V),ZD kvs k=none->ZD (kvs++[(k,y)]) j=if j=k then some y else ZD kvs j
 | [],_=>by
  by_cases e:k=j
  ·rw [if_pos e.symm];exact YB (p:=(k,y)) e
  ·rw [if_neg (fun z=>e z.symm)];exact YD (p:=(k,y)) e
 | p::r,hn=>by
  rw [Ss]
  have hk:¬ p.1=k:=fun z=>by rw [YB z] at hn;cases hn
  rw [YD hk] at hn
  have ih:=Zdb k j y r hn
  by_cases e:p.1=j
  ·rw [YB e,YB e,if_neg (fun z=>hk (e.trans z))]
  ·rw [YD e,YD e,ih]
theorem Uv (kvs:List (κ×V))(k j:κ)(y:V):ZD (Yp kvs k y) j=if j=k then some y else ZD kvs j:=by
 unfold Yp
 by_cases a:(kvs.any fun kv=>decide (kv.1=k))=true
 ·rw [if_pos a,ZdC]
  rw [Vt] at a
  by_cases e:j=k
  ·obtain ⟨x,hx⟩:=JQ.mp a
   rw [if_pos e,e,hx,GU,if_pos rfl]
  ·rw [if_neg e]
   cases ZD kvs j with
   | none=>rfl
   | some x=>rw [GU,if_neg e]
 ·rw [if_neg a]
  refine Zdb k j y kvs ?_
  rw [Vt] at a
  cases q:ZD kvs k with
  | none=>rfl
  | some x=>rw [q] at a;exact (a rfl).elim
theorem XQ (kvs:List (κ×V))(k:κ)(v:V):(Yp kvs k v).length<=kvs.length+1:=by
 unfold Yp
 split
 ·rw [length_map];omega
 ·rw [length_append,length_cons,PY];omega
theorem RelO.isSome_eq {o:Option V}{u:Option Qb}(r:RelO o u):o.isSome=u.isSome:=by
 cases o with
 | none=>cases u with
  | none=>rfl
  | some _=>exact (show False from r).elim
 | some _=>cases u with
  | none=>exact (show False from r).elim
  | some _=>rfl
theorem RelO.getD {o:Option V}{u:Option Qb}{d:V}{d':Qb}(r:RelO o u)(rd:RelV d d'):RelV (o.getD d) (u.getD d'):=by
 cases o with
 | none=>cases u with
  | none=>exact rd
  | some _=>exact (show False from r).elim
 | some _=>cases u with
  | none=>exact (show False from r).elim
  | some _=>exact r
theorem KV.val {kvs:List (κ×V)}{vs:List (κ×Qb)}(r:KV kvs vs)(k:κ):RelO (ZD kvs k) (RU vs k):=by
 unfold KV at r
 induction r with
 | nil=>exact Gw
 | @cons p q ps qs h t ih =>
  obtain ⟨h1,h2⟩:=h
  by_cases e:p.1=k
  ·have e':q.1=k:=h1.symm.trans e
   have b:RU (q::qs) k=some q.2:=by simp [RU,find?_cons,e']
   rw [YB e,b];exact h2
  ·have e':¬ q.1=k:=fun z=>e (h1.trans z)
   have b:RU (q::qs) k=RU qs k:=by simp [RU,find?_cons,e']
   rw [YD e,b];exact ih
theorem KV.any {kvs:List (κ×V)}{vs:List (κ×Qb)}(r:KV kvs vs)(k:κ):(kvs.any fun kv=>decide (kv.1=k))=vs.any fun kv=>decide (kv.1=k):=by
 unfold KV at r
 induction r with
 | nil=>rfl
 | cons h t ih=>rw [On,On,ih,h.1]
theorem KV.repl {kvs:List (κ×V)}{vs:List (κ×Qb)}(r:KV kvs vs)(k:κ){y:V}{u:Qb}(ry:RelV y u) :
 KV (kvs.map fun kv=>if kv.1=k then (kv.1,y) else kv) (vs.map fun kv=>if kv.1=k then (kv.1,u) else kv):=by
 unfold KV at r ⊢
 induction r with
 | nil=>exact .nil
 | @cons p q ps qs h t ih =>
  rw [map_cons,map_cons]
  refine .cons ?_ ih
  obtain ⟨h1,h2⟩:=h
  by_cases e:p.1=k
  ·rw [if_pos e,if_pos (h1.symm.trans e)];exact ⟨h1,ry⟩
  ·rw [if_neg e,if_neg (fun z=>e (h1.trans z))];exact ⟨h1,h2⟩
theorem KV.put {kvs:List (κ×V)}{vs:List (κ×Qb)}(r:KV kvs vs)(k:κ){y:V}{u:Qb}(ry:RelV y u):KV (Yp kvs k y) (stored vs k u):=by
 unfold Yp stored
 rw [r.any k]
 by_cases e:(vs.any fun kv=>decide (kv.1=k))=true
 ·rw [if_pos e,if_pos e];exact r.repl k ry
 ·rw [if_neg e,if_neg e];exact Paired.snoc r ⟨rfl,ry⟩
theorem KV.length {kvs:List (κ×V)}{vs:List (κ×Qb)}(r:KV kvs vs):kvs.length=vs.length:=Jb r
end
theorem Vr {P:Qk}{w:Qv}{k:Zn}{u:Qb}(r:RelV (kV k) u):(ZN P w).is k u=true:=by
 cases k with
 | inl i=>obtain ⟨t,e⟩:=(show ∃ t,u=RN i t from r);subst e;exact ZeT P w i t
 | inr x=>obtain ⟨t,e⟩:=(show ∃ t,u=Tn x t from r);subst e;exact Zat P w x t
theorem ZcY {P:Qk}{w:Qv}:∀{ks:List Zn}{us:List Qb},Vals (ks.map kV) us->ItemsAre (ZN P w) ks us
 | [],_,r=>by rw [SW] at r;cases r;exact .nil
 | k::ks,_,r=>by
  rw [map_cons] at r
  cases r with
  | cons h t=>exact .cons (Vr h) (ZcY t)
abbrev KT (H:Hp):List (List Zn×V)->List (List Zn×Addr×Qb)->Prop:=Sf fun p q=>p.1=q.1/\H q.2.1=some (.tup (p.1.map kV))/\RelV p.2 q.2.2
theorem KT.val {H:Hp}{kvs:List (List Zn×V)}{xs:List (List Zn×Addr×Qb)}(r:KT H kvs xs)(k:List Zn):RelO (ZD kvs k) ((NJ xs k).map (·.2)):=by
 induction r with
 | nil=>exact Gw
 | @cons p q ps qs h t ih =>
  obtain ⟨h1,_,h2⟩:=h
  by_cases e:p.1=k
  ·have e':q.1=k:=h1.symm.trans e
   have b:NJ (q::qs) k=some q.2:=by simp [NJ,find?_cons,e']
   rw [YB e,b];exact h2
  ·have e':¬ q.1=k:=fun z=>e (h1.trans z)
   have b:NJ (q::qs) k=NJ qs k:=by simp [NJ,find?_cons,e']
   rw [YD e,b];exact ih
theorem KT.repl {H:Hp}{kvs:List (List Zn×V)}{xs:List (List Zn×Addr×Qb)}(r:KT H kvs xs)(k:List Zn){y:V}{u:Qb}(ry:RelV y u) :
 KT H (kvs.map fun kv=>if kv.1=k then (kv.1,y) else kv) (xs.map (putAt k u)):=by
 induction r with
 | nil=>exact .nil
 | @cons p q ps qs h t ih =>
  rw [map_cons,map_cons]
  refine .cons ?_ ih
  obtain ⟨h1,h2,h3⟩:=h
  unfold putAt
  by_cases e:p.1=k
  ·rw [if_pos e,if_pos (h1.symm.trans e)];exact ⟨h1,h2,ry⟩
  ·rw [if_neg e,if_neg (fun z=>e (h1.trans z))];exact ⟨h1,h2,h3⟩
theorem KT.put {H:Hp}{kvs:List (List Zn×V)}{xs:List (List Zn×Addr×Qb)}(r:KT H kvs xs)(k:List Zn){b:Addr}{y:V}{u:Qb}(hb:H b=some (.tup (k.map kV)))(ry:RelV y u) :
 KT H (Yp kvs k y) (storedH xs k b u):=by
 have e:(kvs.any fun kv=>decide (kv.1=k))=(NJ xs k).isSome:=by
  rw [Vt,(r.val k).isSome_eq,Sa]
 unfold Yp storedH
 rw [e]
 by_cases q:(NJ xs k).isSome=true
 ·rw [if_pos q,if_pos q];exact r.repl k ry
 ·rw [if_neg q,if_neg q];exact Paired.snoc r ⟨rfl,hb,ry⟩
theorem KT.keeps {H H':Hp}{kvs:List (List Zn×V)}{xs:List (List Zn×Addr×Qb)}(r:KT H kvs xs)(ht:∀ b ys,H b=some (.tup ys)->H' b=some (.tup ys)):KT H' kvs xs :=
 Sf.mapP r fun _ _ z=>⟨z.1,ht _ _ z.2.1,z.2.2⟩
section
variable {P:Qk}{w:Qv}{H:Hp}{h:Heap}{a:Addr}
theorem Zkn {u:HO}(ok:HOk P w H h)(e:Rd H a u):ObjOk P w H h a u:=e.ok ok
theorem Vz {kvs:List (Zn×V)}(ok:HOk P w H h)(e:Rd H a (.dK kvs)):kvs.length<=Qi/\(a == Jc)=false/\∃ vs,KV kvs vs/\h.DictOf (ZN P w) a vs :=
 show ObjOk P w H h a (.dK kvs) from Zkn ok e
theorem ZbJ {kvs:List (Zn×V)}(ok:HOk P w H h)(e:H a=some (.dK kvs)):kvs.length<=Qi/\(a == Jc)=false/\∃ vs,KV kvs vs/\h.DictOf (ZN P w) a vs:=Vz ok (.inl e)
theorem UP {ks:List Zn}(ok:HOk P w H h)(e:H a=some (.tup (ks.map kV))):(Sm (ZN P w)).is h ks a:=by
 obtain ⟨_,its,r,o,h1,h2,n,h3⟩:=(show ObjOk P w H h a (.tup (ks.map kV)) from ok a _ e)
 exact ⟨o,its.toArray,n,h1,h2,h3,by simpa using ZcY r⟩
theorem Vo {kvs:List (List Zn×V)}(ok:HOk P w H h)(e:Rd H a (.dT kvs)):kvs.length<=Qi/\(a == Jc)=false /\
 ∃ xs,KT H kvs xs/\h.DictOfH (Sm (ZN P w)) a xs:=by
 obtain ⟨z,y,xs,r,o,es,ep,h1,h2,h3,h4,h5⟩:=(show ObjOk P w H h a (.dT kvs) from Zkn ok e)
 refine ⟨z,y,xs,r,o,es,ep,h1,h2,h3,h4,fun x hx=>?_,h5⟩
 have all:∀ {l:List (List Zn×V)} {m:List (List Zn×Addr×Qb)},KT H l m->∀ x∈m,(Sm (ZN P w)).is h x.1 x.2.1:=by
  intro l m q
  induction q with
  | nil=>intro x hx;exact nomatch hx
  | @cons p q ps qs hq t ih =>
   intro x hx
   rcases mem_cons.mp hx with e | hx
   ·subst e
    exact UP ok (by rw [<- hq.1];exact hq.2.1)
   ·exact ih x hx
 exact all r x hx
theorem ZoW {kvs:List (List Zn×V)}(ok:HOk P w H h)(e:H a=some (.dT kvs)):kvs.length<=Qi/\(a == Jc)=false /\
 ∃ xs,KT H kvs xs/\h.DictOfH (Sm (ZN P w)) a xs:=Vo ok (.inl e)
end
def DGet (H:Hp)(a:Addr)(y:V)(r:Option V):Prop :=
 (∃ kvs k,Rd H a (.dK kvs)/\y=kV k/\r=ZD kvs k)\/∃ kvs k b,Rd H a (.dT kvs)/\y=.ref b/\H b=some (.tup (k.map kV))/\r=ZD kvs k
def DPut (H:Hp)(a:Addr)(y v:V)(H':Hp):Prop :=
 (∃ kvs k,H a=some (.dK kvs)/\y=kV k/\kvs.length < Qi/\H'=upd H a (.dK (Yp kvs k v))) \/
 ∃ kvs k b,H a=some (.dT kvs)/\y=.ref b/\H b=some (.tup (k.map kV))/\kvs.length < Qi/\H'=upd H a (.dT (Yp kvs k v))
theorem DGet.k {H:Hp}{a:Addr}{kvs:List (Zn×V)}{k:Zn}(e:H a=some (.dK kvs)):DGet H a (kV k) (ZD kvs k):=.inl ⟨kvs,k,.inl e,rfl,rfl⟩
theorem DPut.k {H:Hp}{a:Addr}{kvs:List (Zn×V)}{k:Zn}{v:V}(e:H a=some (.dK kvs))(hl:kvs.length < Qi):DPut H a (kV k) v (upd H a (.dK (Yp kvs k v))):=.inl ⟨kvs,k,e,rfl,hl,rfl⟩
section
variable {X:Cx}{pins:List (Addr×Obj)}{σ:St}{H:Hp}{s:Qe}{a:Addr}{y v:V}{u r:Qb}{o:Option V}{A:QF}{E:Qb->Qe->Prop}
theorem Inv.big (I:Inv X pins σ H s):Jc < s.heap.objs.size:=by
 have h:Ql < s.heap.objs.size:=(I.mod.glob.keeps I.bk).lt
 exact Nat.lt_trans (by decide) h
theorem ZhG {Q:Qb->Qe->Prop}(hu:A.units+1 < Re)(I:Inv X pins σ H s)(g:DGet H a y (some v))(ry:RelV y u)(h:∀ w' s',Inv X pins σ H s'->RelV v w'->Q w' s') :
 Qq (Qt X.prog X.w) A (SU (.ref a) u) Q E s:=by
 rcases g with ⟨kvs,k,e,ey,l⟩ | ⟨kvs,k,b,e,ey,eb,l⟩
 ·subst ey
  obtain ⟨z,hd,vs,rel,dd⟩:=Vz I.hok e
  obtain ⟨w',hw,rw'⟩:=RelO.some_of (v:=v) (o:=RU vs k) (by rw [l];exact rel.val k)
  exact wpAny_getItem_of (Vr ry) dd.mapOf hw (h w' _ (I.tok _) rw')
 ·subst ey
  cases (show u=Qo b from ry)
  obtain ⟨z,hd,xs,rel,dd⟩:=Vo I.hok e
  obtain ⟨w',hw,rw'⟩:=RelO.some_of (v:=v) (o:=(NJ xs k).map (·.2)) (by rw [l];exact rel.val k)
  obtain ⟨p,hp,hp2⟩:=QR.mp hw
  refine wpAny_getItem_heap (Jm hu) (UP I.hok eb) dd hp ?_
  rw [hp2]
  exact h w' _ (I.tok _) rw'
theorem d_in {Q:Qb->Qe->Prop}(hu:A.units+1 < Re)(I:Inv X pins σ H s)(g:DGet H a y o)(ry:RelV y u)(h:∀ s',Inv X pins σ H s'->Q (.bool o.isSome) s') :
 Qq (Qt X.prog X.w) A (GL .In u (.ref a)) Q E s:=by
 rcases g with ⟨kvs,k,e,ey,l⟩ | ⟨kvs,k,b,e,ey,eb,l⟩
 ·subst ey
  obtain ⟨z,hd,vs,rel,dd⟩:=Vz I.hok e
  refine wpAny_in_of (Vr ry) hd dd.mapOf ?_
  rw [<- (rel.val k).isSome_eq,<- l]
  exact h _ (I.tok _)
 ·subst ey
  cases (show u=Qo b from ry)
  obtain ⟨z,hd,xs,rel,dd⟩:=Vo I.hok e
  refine wpAny_in_heap (Jm hu) (UP I.hok eb) hd dd ?_
  have q:=(rel.val k).isSome_eq
  rw [Sa] at q
  rw [<- q,<- l]
  exact h _ (I.tok _)
theorem Zlc {Q:Qb->Qe->Prop}(hu:A.units+1 < Re)(I:Inv X pins σ H s)(g:DGet H a y o)(ry:RelV y u)(h:∀ s',Inv X pins σ H s'->Q (.bool (!o.isSome)) s') :
 Qq (Qt X.prog X.w) A (GL .NotIn u (.ref a)) Q E s:=by
 rcases g with ⟨kvs,k,e,ey,l⟩ | ⟨kvs,k,b,e,ey,eb,l⟩
 ·subst ey
  obtain ⟨z,hd,vs,rel,dd⟩:=Vz I.hok e
  refine wpAny_notIn_of (Vr ry) hd dd.mapOf ?_
  rw [<- (rel.val k).isSome_eq,<- l]
  exact h _ (I.tok _)
 ·subst ey
  cases (show u=Qo b from ry)
  obtain ⟨z,hd,xs,rel,dd⟩:=Vo I.hok e
  refine wpAny_notIn_heap (Jm hu) (UP I.hok eb) hd dd ?_
  have q:=(rel.val k).isSome_eq
  rw [Sa] at q
  rw [<- q,<- l]
  exact h _ (I.tok _)
theorem Zcc {h':Heap}{t':Nat}{ob:HO}(I:Inv X pins σ H s)(mu:Mut (H a))(hs:SK a s.heap h')(he:∃ q,h'.get? a=some q)(new:ObjOk X.prog X.w (upd H a ob) h' a ob) :
 Inv X pins σ (upd H a ob) { s with heap:=h',toks:=t' } :=
 I.write (x:=a) (e:=a) mu (.inl rfl) (fun b q hb z=>(hs.2 b hb).trans z) he new
theorem Zir {P:Qk}{w:Qv}{H':Hp}{h':Heap}{kvs:List (Zn×V)}{vs:List (Zn×Qb)}(z:kvs.length<=Qi)(hd:(a == Jc)=false)(rel:KV kvs vs)(dd:h'.DictOf (ZN P w) a vs) :
 ObjOk P w H' h' a (.dK kvs):=⟨z,hd,vs,rel,dd⟩
theorem Zht {H':Hp}{Q:Unit->Qe->Prop}(hu:A.units+1 < Re)(I:Inv X pins σ H s)(g:DPut H a y v H')(ry:RelV y u)(rv:RelV v r)(h:∀ s',Inv X pins σ H' s'->Q () s') :
 Qq (Qt X.prog X.w) A (setItem (.ref a) u r) Q E s:=by
 rcases g with ⟨kvs,k,e,ey,l,eH⟩ | ⟨kvs,k,b,e,ey,eb,l,eH⟩
 ·subst ey eH
  obtain ⟨z,hd,vs,rel,dd⟩:=ZbJ I.hok e
  have hz:vs.length<=sizeLine:=by rw [<- rel.length];exact z
  have hl:(Yp kvs k v).length<=sizeLine:=by have:=XQ kvs k v;omega
  refine wpAny_setItem_pairs (hsz:=hz) (Vr ry) dd fun h' dd' hs=>h _ ?_
  have he:∃ q,h'.get? a=some q:=let ⟨q,_,_,hq,_⟩:=dd';⟨q,hq⟩
  exact Zcc I (by rw [e];exact Gw) hs he (Zir hl hd (rel.put k rv) dd')
 ·subst ey eH
  cases (show u=Qo b from ry)
  obtain ⟨z,hd,xs,rel,dd⟩:=ZoW I.hok e
  have hz:xs.length<=sizeLine:=by rw [<- Jb rel];exact z
  have hl:(Yp kvs k v).length<=sizeLine:=by have:=XQ kvs k v;omega
  refine wpAny_setItem_heap (hsz:=hz) (Jm hu) (UP I.hok eb) dd fun h' dd' hs=>h _ ?_
  obtain ⟨q,es,ep,hq,h2,h3,h4,_,h5⟩:=dd'
  refine Zcc I (by rw [e];exact Gw) hs ⟨q,hq⟩ ⟨hl,hd,_,(rel.put k eb rv).keeps fun c ys ec=>?_,q,es,ep,hq,h2,h3,h4,h5⟩
  rw [Zg (Zbg ec e (fun z=>nomatch z))]
  exact ec
end
section
variable {X:Cx}{pins:List (Addr×Obj)}{σ:St}{H:Hp}{s:Qe}{a:Addr}{kvs:List (Zn×V)}{k:Zn}{u:Qb}{A:QF}{E:Qb->Qe->Prop}
end
def NoSl (i:Expr):Prop:=∀ ov iv,Ry i false ov iv=operate [ov,iv] (SU ov iv)
theorem ZkS {prog:Qk}{w:Qv}{A:QF}{E:Qb->Qe->Prop}{s:Qe}{env:Env}{value slice:Expr}{pos:Pos}{T id:String}{Q:Qb->Qe->Prop}
 (hl:QY (.type T) "__getitem__"=pure (some (.builtin id))) (hs:NoSl slice)
 (h:Qq (Qt prog w) A (eval value env) (fun o s₁=>Qq (Qt prog w) A (eval slice env) (fun i s₂=>s₂.TypeIs o T/\Qq (Qt prog w) A (SU o i) Q E s₂) E s₁) E s) :
 Qq (Qt prog w) A (eval (.Subscript value slice pos) env) Q E s:=by
 refine OC (QS h (fun o s₁ h₁=>QS h₁ (fun i s₂ h₂=>?_) fun _ _ x=>x) fun _ _ x=>x)
 obtain ⟨hT,h₂⟩:=h₂
 unfold Om
 refine Qg ?_
 rw [getitemInPython_of_ne hT.not_modules]
 refine Qg (wpAny_specialOf hT hl ?_)
 have fin:Qq (Qt prog w) A (Ry slice false o i) (fun r s₃=>Qq (Qt prog w) A (letTemporaryGo value o r >>= fun _=>pure r) Q E s₃) E s₂:=by
  rw [hs o i]
  exact wpAny_operating (QS h₂ (fun r s₃ h₃=>Qg (wpAny_letTemporaryGo (Qp h₃))) fun _ _ x=>x)
 first
  | exact Qp (Qg fin)
  | exact Qg (Qp (Qg fin))
  | exact Qg fin
theorem ZeU {X:Cx}{pins:List (Addr×Obj)}{σ:St}{H:Hp}{s:Qe}{a:Addr}{y:V}{o:Option V}(I:Inv X pins σ H s)(g:DGet H a y o):s.TypeIs (.ref a) "dict":=by
 rcases g with ⟨kvs,k,e,_,_⟩ | ⟨kvs,k,b,e,_,_,_⟩
 ·obtain ⟨_,_,vs,_,dd⟩:=Vz I.hok e
  exact dd.typeIs
 ·obtain ⟨_,_,xs,_,dd⟩:=Vo I.hok e
  exact dd.typeIs
def ZoL (td ty:TE):TE:=fun σ H Q=>td σ H fun x H1=>ty σ H1 fun y H2=>∃ a v,x=.ref a/\DGet H2 a y (some v)/\Q v H2
def tDIn (ty td:TE):TE:=fun σ H Q=>ty σ H fun y H1=>td σ H1 fun x H2=>∃ a o,x=.ref a/\DGet H2 a y o/\Q (.bl o.isSome) H2
def ZlI (ty td:TE):TE:=fun σ H Q=>ty σ H fun y H1=>td σ H1 fun x H2=>∃ a o,x=.ref a/\DGet H2 a y o/\Q (.bl (!o.isSome)) H2
def Zpk (td ty tv:TE):TS:=fun D σ H=>tv σ H fun v H1=>td σ H1 fun x H2=>ty σ H2 fun y H3=>∃ a H4,x=.ref a/\DPut H3 a y v H4/\D.nx σ H4
section
variable {X:Cx}{o i e value:Expr}{pos pos' tpos:Pos}{td ty tv:TE}
theorem Xm (hu:X.A.units+1 < Re)(ho:PE X o td)(hi:PE X i ty)(hs:NoSl i):PE X (.Subscript o i pos) (ZoL td ty):=by
 intro pins s σ H Q I h
 refine ZkS PySem.F.slot_dict_getitem.lookup hs (Zs (ho pins s σ H _ I h) fun u s1 ⟨x,H1,I1,rx,q1⟩=>Zs (hi pins s1 σ H1 _ I1 q1) fun iv s2 ⟨y,H2,I2,ry,a,v,ex,g,q2⟩=>?_)
 subst ex
 obtain rfl:u=Qo a:=rx
 exact ⟨ZeU I2 g,ZhG hu I2 g ry fun w' s3 I3 rw'=>⟨v,H2,I3,rw',q2⟩⟩
theorem Zod (hu:X.A.units+1 < Re)(hi:PE X i ty)(ho:PE X o td):PC X .In i o (tDIn ty td):=by
 intro pins s σ H Q I h
 refine Zs (hi pins s σ H _ I h) fun iv s1 ⟨y,H1,I1,ry,q1⟩=>Zs (ho pins s1 σ H1 _ I1 q1) fun u s2 ⟨x,H2,I2,rx,a,ov,ex,g,q2⟩=>?_
 subst ex
 obtain rfl:u=Qo a:=rx
 exact d_in hu I2 g ry fun s3 I3=>⟨.bl ov.isSome,H2,I3,rfl,q2⟩
theorem ZcV (hu:X.A.units+1 < Re)(hi:PE X i ty)(ho:PE X o td):PC X .NotIn i o (ZlI ty td):=by
 intro pins s σ H Q I h
 refine Zs (hi pins s σ H _ I h) fun iv s1 ⟨y,H1,I1,ry,q1⟩=>Zs (ho pins s1 σ H1 _ I1 q1) fun u s2 ⟨x,H2,I2,rx,a,ov,ex,g,q2⟩=>?_
 subst ex
 obtain rfl:u=Qo a:=rx
 exact Zlc hu I2 g ry fun s3 I3=>⟨.bl (!ov.isSome),H2,I3,rfl,q2⟩
theorem Vb (hu:X.A.units+1 < Re)(ho:PE X o td)(hi:PE X i ty)(hv:PE X value tv)(hs:To value (some (.Subscript o i pos')) pos.line X.env=pure false) :
 PS X (.Assign [.Subscript o i pos'] value pos) (Zpk td ty tv):=by
 intro pins s σ H D I h
 refine wpAny_Assign_Subscript (Zs (hv pins s σ H _ I h) fun r s1 ⟨v,H1,I1,rv,q1⟩=>Zs (ho pins s1 σ H1 _ I1 q1) fun u s2 ⟨x,H2,I2,rx,q2⟩=>Zs (hi pins s2 σ H2 _ I2 q2) fun iv s3 ⟨y,H3,I3,ry,a,H4,ex,g,q3⟩=>?_) hs
 subst ex
 obtain rfl:u=Qo a:=rx
 exact Zht hu I3 g ry rv fun s4 I4=>⟨σ,H4,I4,q3⟩
end
theorem ZdH {P:Qk}{w:Qv}{H:Hp}(h:Heap)(hb:Jc < h.objs.size):ObjOk P w H (h.push { cls:=.type "dict",data:=.dict #[] }) h.objs.size (.dK []) :=
 ⟨QC _,beq_eq_false_iff_ne.mpr (Gv (Qw hb)),[],.nil,NR h⟩
def Zmf:TE:=fun _ H Q=>∀ p,H p=none->Q (.ref p) (upd H p (.dK []))
section
variable {X:Cx}{pos:Pos}
theorem ZaW:PE X (.Dict [] [] pos) Zmf:=fun pins s σ H Q I h =>
 wpAny_Dict_empty ⟨.ref s.heap.objs.size,_,I.laid (a:=s.heap.objs.size) (o:=.dK []) (t':=s.toks) (fun _ _ q=>Qd _ q) (Qh _) (ZdH s.heap I.big),rfl,h _ (I.hok.fresh (Qh _))⟩
end
def Zef:List (TE×TE)->St->Hp->(List (V×V)->Hp->Prop)->Prop
 | [],_,H,Q=>Q [] H
 | (tk,tv)::r,σ,H,Q=>tk σ H fun x H1=>tv σ H1 fun y H2=>Zef r σ H2 fun ps H3=>Q ((x,y)::ps) H3
abbrev VV:List (V×V)->List (Qb×Qb)->Prop:=Sf fun p q=>RelV p.1 q.1/\RelV p.2 q.2
def PPs (X:Cx)(pos:Pos)(keys:List (Option Expr))(values:List Expr)(trs:List (TE×TE)):Prop :=
 ∀ (pins:List (Addr×Obj)) (s:Qe) (σ:St) (H:Hp) (Q:List (V×V)->Hp->Prop),Inv X pins σ H s->Zef trs σ H Q ->
  Qq (Qt X.prog X.w) X.A (evalPairs (pairTrees keys values X.env pos)) (fun vs s'=>∃ ps H',Inv X pins σ H' s'/\VV ps vs/\Q ps H') X.xe s
theorem Zll {X:Cx}{pos:Pos}:PPs X pos [] [] []:=fun pins s σ H Q I h=>pairTrees_nil_walk ⟨[],H,I,.nil,h⟩
theorem ZiS {X:Cx}{pos:Pos}{k v:Expr}{ks:List (Option Expr)}{vs:List Expr}{tk tv:TE}{trs:List (TE×TE)}(hk:PE X k tk)(hv:PE X v tv)(hr:PPs X pos ks vs trs) :
 PPs X pos (some k::ks) (v::vs) ((tk,tv)::trs):=fun pins s σ H Q I h =>
 pairTrees_cons_walk (Zs (hk pins s σ H _ I h) fun u s1 ⟨x,H1,I1,rx,q1⟩=>Zs (hv pins s1 σ H1 _ I1 q1) fun w2 s2 ⟨y,H2,I2,ry,q2⟩ =>
  Zs (hr pins s2 σ H2 _ I2 q2) fun ws s3 ⟨ps,H3,I3,rel,q3⟩=>⟨(x,y)::ps,H3,I3,.cons ⟨rx,ry⟩ rel,q3⟩)
def Zaa (kvs more:List (Zn×V)):List (Zn×V):=more.foldl (fun acc kv=>Yp acc kv.1 kv.2) kvs
theorem KV.merge:∀{more:List (Zn×V)}{rs:List (Zn×Qb)}{kvs:List (Zn×V)}{vs:List (Zn×Qb)},KV more rs->KV kvs vs->KV (Zaa kvs more) (merged vs rs):=by
 intro more rs kvs vs r
 unfold KV at r
 induction r generalizing kvs vs with
 | nil=>intro q;exact q
 | @cons p q ps qs h t ih =>
  intro r0
  have e:KV (Yp kvs p.1 p.2) (stored vs q.1 q.2):=by
   have:=r0.put p.1 h.2
   rw [<- h.1];exact this
  exact ih e
theorem VB:∀(more kvs:List (Zn×V)),(Zaa kvs more).length<=kvs.length+more.length
 | [],kvs=>by show kvs.length<=kvs.length+0;omega
 | p::r,kvs=>by
  have h1:=VB r (Yp kvs p.1 p.2)
  have h2:=XQ kvs p.1 p.2
  show (Zaa (Yp kvs p.1 p.2) r).length<=_
  rw [length_cons];omega
theorem ZbF {P:Qk}{w:Qv}:∀{kvs:List (Zn×V)}{ws:List (Qb×Qb)},VV (kvs.map fun kv=>(kV kv.1,kv.2)) ws->∃ rs,Carries (ZN P w) ws rs/\KV kvs rs
 | [],_,r=>by rw [SW] at r;cases r;exact ⟨[],Gw,.nil⟩
 | p :: kvs,_,r=>by
  rw [map_cons] at r
  cases r with
  | @cons a b as bs h t =>
   obtain ⟨rs,c,q⟩:=ZbF (P:=P) (w:=w) t
   obtain ⟨b1,b2⟩:=b
   exact ⟨(p.1,b2)::rs,⟨Vr h.1,rfl,c⟩,.cons ⟨rfl,h.2⟩ q⟩
def ZoO (trs:List (TE×TE)):TE:=fun σ H Q=>∀ p,H p=none->Zef trs σ (upd H p (.dK [])) fun ps H2=>H2 p=some (.dK [])/\∃ kvs:List (Zn×V),ps=kvs.map (fun kv=>(kV kv.1,kv.2))/\kvs.length<=15/\Q (.ref p) (upd H2 p (.dK (Zaa [] kvs)))
theorem ZlK {X:Cx}{pos:Pos}{keys:List (Option Expr)}{values:List Expr}{trs:List (TE×TE)}(h:PPs X pos keys values trs)(hall:keys.all (·.isSome)=true)(hl:keys.length=values.length)(h0:keys≠[])
 (h15:keys.length<=15):PE X (.Dict keys values pos) (ZoO trs):=by
 intro pins s σ H Q I q
 have hn:=I.hok.fresh (Qh s.heap.objs.size)
 have I1:=I.laid (a:=s.heap.objs.size) (o:=.dK []) (h':=s.heap.push { cls:=.type "dict",data:=.dict #[] }) (t':=s.toks) (fun _ _ q=>Qd _ q) (Qh _) (ZdH s.heap I.big)
 refine wpAny_Dict_walk (knd:=ZN X.prog X.w) hall hl h0 h15 (Zs (h pins _ σ _ _ I1 (q _ hn)) fun ws s2 ⟨ps,H2,I2,rel,e,kvs,ep,lk,q2⟩=>?_)
 subst ep
 obtain ⟨rs,c,rk⟩:=ZbF (P:=X.prog) (w:=X.w) rel
 obtain ⟨z,hd,vs0,r0,dd⟩:=ZbJ I2.hok e
 cases r0
 refine ⟨rs,c,dd,fun h' dd' hs=>⟨.ref s.heap.objs.size,_,?_,rfl,q2⟩⟩
 have hz:(Zaa [] kvs).length<=sizeLine:=by
  have h1:=VB kvs []
  rw [PY] at h1
  rw [QU];omega
 have he:∃ q,h'.get? s.heap.objs.size=some q:=let ⟨q,_,_,hq,_⟩:=dd';⟨q,hq⟩
 exact Zcc I2 (by rw [e];exact Gw) hs he (Zir hz hd (rk.merge .nil) dd')
structure M1 (X:Cx)(o:Expr)(m:Str)(apos:Pos)(e:Expr)(cpos:Pos):Prop where
 base:Jq o m X.env (eval o X.env)=eval o X.env
 few:((Jg cpos (QE [e] X.env)).all (fun x=>!x.1)&&(PQ cpos (Jk [] X.env)).all (fun x=>x.1.isSome)
  && decide (([e]:List Expr).length+([]:List OT).length+(if ([]:List OT).isEmpty then 0 else 1) < 30))=true
 line:(apos.endLine == cpos.line)=true
 trees:Jg cpos (QE [e] X.env)=[(false,eval e X.env)]
def IsD (H:Hp)(a:Addr):Prop:=(∃ kvs,Rd H a (.dK kvs))\/∃ kvs,Rd H a (.dT kvs)
theorem ZmN {X:Cx}{pins:List (Addr×Obj)}{σ:St}{H:Hp}{s:Qe}{a:Addr}(I:Inv X pins σ H s)(d:IsD H a) :
 s.TypeIs (.ref a) "dict"/\(∀ b,Qo a=.ref b->∃ ob,s.heap.get? b=some ob/\ob.dict=none)/\(a == Jc)=false:=by
 rcases d with ⟨kvs,e⟩ | ⟨kvs,e⟩
 ·obtain ⟨_,hd,vs,_,dd⟩:=Vz I.hok e
  refine ⟨dd.typeIs,fun b q=>?_,hd⟩
  cases q
  obtain ⟨ob,_,_,h1,h2,_⟩:=dd
  exact ⟨ob,h1,h2.2.1⟩
 ·obtain ⟨_,hd,xs,_,dd⟩:=Vo I.hok e
  refine ⟨dd.typeIs,fun b q=>?_,hd⟩
  cases q
  obtain ⟨ob,_,_,h1,h2,_⟩:=dd
  exact ⟨ob,h1,h2.2.1⟩
section
variable {X:Cx}{pins:List (Addr×Obj)}{σ:St}{H:Hp}{s:Qe}{a:Addr}{y d:V}{u r:Qb}{o:Option V}{A:QF}{E:Qb->Qe->Prop}
theorem ZnT {Q:Qb->Qe->Prop}(hu:A.units+1 < Re)(I:Inv X pins σ H s)(g:DGet H a y o)(ry:RelV y u)(h:∀ w' s',Inv X pins σ H s'->RelV (o.getD .non) w'->Q w' s') :
 Qq (Qt X.prog X.w) A (call (.builtin "dict.get") [.ref a,u]) Q E s:=by
 rcases g with ⟨kvs,k,e,ey,l⟩ | ⟨kvs,k,b,e,ey,eb,l⟩
 ·subst ey
  obtain ⟨z,hd,vs,rel,dd⟩:=Vz I.hok e
  refine OY Px dd.typeIs SY (Su _ _) (meets_dict_get (ZN X.prog X.w) a (Vr ry) hd) ⟨_,dd.mapOf,h _ _ (I.tok _) ?_⟩
  rw [l]
  exact (rel.val k).getD rfl
 ·subst ey
  cases (show u=Qo b from ry)
  obtain ⟨z,hd,xs,rel,dd⟩:=Vo I.hok e
  refine OY Px dd.typeIs SY (Su _ _) (meetsH_dict_get (Sm (ZN X.prog X.w)) a b hd) ⟨Jm hu,k,xs,UP I.hok eb,dd,h _ _ (I.tok _) ?_⟩
  rw [l]
  exact (rel.val k).getD rfl
end
def ZnW (td ty:TE):TE:=fun σ H Q=>td σ H fun x H1=>∃ a,x=.ref a/\IsD H1 a/\ty σ H1 fun y H2=>∃ o,DGet H2 a y o/\Q (o.getD .non) H2
section
variable {X:Cx}{o e f:Expr}{apos cpos:Pos}{td ty tx:TE}
theorem ZjR (hu:X.A.units+1 < Re)(ho:PE X o td)(he:PE X e ty)(m:M1 X o "get" apos e cpos):PE X (.Call (.Attribute o "get" apos) [e] [] cpos) (ZnW td ty):=by
 intro pins s σ H Q I h
 refine wpAny_Call_method m.base m.few m.line Sv Px PySem.F.type_dict_get (Zs (ho pins s σ H _ I h) fun u s1 ⟨x,H1,I1,rx,a,ex,d,q1⟩=>?_)
 subst ex
 obtain rfl:u=Qo a:=rx
 obtain ⟨t1,t2,_⟩:=ZmN I1 d
 refine ⟨t1,t2,?_⟩
 rw [m.trees]
 refine Pi rfl (Rz (Tx (Zs (he pins s1 σ H1 _ I1 q1) fun iv s2 ⟨y,H2,I2,ry,ov,g,q2⟩=>TY ?_)))
 exact ZnT hu I2 g ry fun w' s3 I3 rw'=>⟨_,H2,I3,rw',q2⟩
end
section
variable {X:Cx}{pins:List (Addr×Obj)}{σ:St}{H:Hp}{s:Qe}{a:Addr}{kvs:List (Zn×V)}{A:QF}{E:Qb->Qe->Prop}
end
section
variable {X:Cx}{pins:List (Addr×Obj)}{σ:St}{H:Hp}{s:Qe}{a:Addr}{y:V}{u:Qb}{A:QF}{E:Qb->Qe->Prop}
end
section
variable {κ:Type}[DecidableEq κ]
end
theorem VN {env:Env}(y:Str):∀ names:List (Str×Pf),
 (names.map fun (n,k)=>if (k == Jr&&env.scope.kind == .function&&env.kindOf n == some .cell) then (n,NameKind.cell) else (n,k)).lookup y =
  (names.lookup y).map fun k=>if (k == Jr&&env.scope.kind == .function&&env.kindOf y == some .cell) then NameKind.cell else k
 | []=>rfl
 | (n, k)::r=>by
  have ih:=VN (env:=env) y r
  rw [map_cons]
  cases hx:y == n with
  | true =>
   have e:y=n:=by simpa using hx
   subst e
   by_cases hc:(k == Jr&&env.scope.kind == .function&&env.kindOf y == some .cell)=true
   ·simp only [hc,if_true,lookup_cons,beq_self_eq_true,GU]
   ·simp only [hc,lookup_cons,beq_self_eq_true,GU]
    simp [hc]
  | false =>
   by_cases hc:(k == Jr&&env.scope.kind == .function&&env.kindOf n == some .cell)=true
   ·simp only [hc,if_true,lookup_cons,hx];exact ih
   ·simp only [hc,lookup_cons,hx,GP,if_false];exact ih
theorem YK {scope:Scope}{env:Env}{y:Str}{k:Pf}(hcell:∀ z∈scope.names,z.2≠.cell)(h:(relabel scope env).names.lookup y=some k) :
 scope.names.lookup y=some k\/(scope.names.lookup y=some .free/\k=.cell):=by
 unfold relabel at h
 rw [VN] at h
 cases e:scope.names.lookup y with
 | none=>rw [e] at h;cases h
 | some k0 =>
  rw [e] at h
  simp only [GU,Option.some.injEq] at h
  by_cases hc:(k0 == Jr&&env.scope.kind == .function&&env.kindOf y == some .cell)=true
  ·rw [if_pos hc] at h
   right
   simp only [QL,beq_iff_eq] at hc
   exact ⟨by rw [hc.1.1],h.symm⟩
  ·rw [if_neg hc] at h
   left;rw [h]
theorem mem_of_lookup {α:Type}{y:Str}{k:α}:∀{l:List (Str×α)},l.lookup y=some k->(y,k)∈l
 | [],h=>by cases h
 | (n,z)::r,h=>by
  cases hx:y == n with
  | true =>
   have e:y=n:=by simpa using hx
   subst e
   simp only [lookup_cons,beq_self_eq_true] at h
   cases h
   exact mem_cons_self
  | false =>
   simp only [lookup_cons,hx] at h
   exact mem_cons_of_mem _ (mem_of_lookup h)
theorem VA {env:Env}:∀(names:List (Str×Pf))(c0:List (Str×Addr)),(∀ y∈names,y.2=.free->∃ c,env.cells.lookup y.1=some c) ->
 ∃ cl:List (Str×Addr),(forIn names c0 fun (x:Str×Pf) (r:List (Str×Addr))=>(if x.2 == Jr then (do let a <- cellOf env x.1;pure (Jo ((x.1,a)::r))) else pure (Jo r):Sem (ForInStep (List (Str×Addr)))))=pure cl /\
  (∀ y c,cl.lookup y=some c->c0.lookup y=some c\/env.cells.lookup y=some c)/\(∀ y,c0.lookup y≠none->cl.lookup y≠none)/\∀ y∈names,y.2=.free->cl.lookup y.1≠none
 | [],c0,_=>⟨c0,rfl,fun _ _ h=>.inl h,fun _ h=>h,fun _ h=>(nomatch h)⟩
 | (n, k)::r,c0,h=>by
  by_cases hk:k=.free
  ·subst hk
   obtain ⟨c,hc⟩:=h (n,.free) mem_cons_self rfl
   obtain ⟨cl,e,g1,g2,g3⟩:=VA r ((n,c)::c0) fun y hy=>h y (mem_cons_of_mem _ hy)
   refine ⟨cl,?_,?_,?_,?_⟩
   ·rw [NT]
    have hcell:cellOf env n=pure c:=by unfold cellOf;rw [hc]
    simp only [beq_self_eq_true,if_true,hcell,pure_bind]
    exact e
   ·intro y d q
    rcases g1 y d q with q | q
    ·cases hx:y == n with
     | true =>
      have e':y=n:=by simpa using hx
      subst e'
      simp only [lookup_cons,beq_self_eq_true] at q
      cases q
      exact .inr hc
     | false=>simp only [lookup_cons,hx] at q;exact .inl q
    ·exact .inr q
   ·intro y q
    apply g2
    cases hx:y == n with
    | true=>simp [lookup_cons,hx]
    | false=>simpa [lookup_cons,hx] using q
   ·intro y hy hf
    rcases mem_cons.mp hy with e' | hy
    ·subst e'
     apply g2
     simp [lookup_cons]
    ·exact g3 y hy hf
  ·obtain ⟨cl,e,g1,g2,g3⟩:=VA r c0 fun y hy=>h y (mem_cons_of_mem _ hy)
   refine ⟨cl,?_,g1,g2,?_⟩
   ·rw [NT]
    have hb:(k == Jr)=false:=by simpa using hk
    simp only [hb,GP,if_false,pure_bind]
    exact e
   ·intro y hy hf
    rcases mem_cons.mp hy with e' | hy
    ·subst e';exact absurd hf hk
    ·exact g3 y hy hf
theorem Vp {scope:Scope}{env:Env}(h:∀ y∈scope.names,y.2=.free->∃ c,env.cells.lookup y.1=some c) :
 ∃ cl,closureFor scope env=pure cl/\(∀ y c,cl.lookup y=some c->env.cells.lookup y=some c)/\∀ y∈scope.names,y.2=.free->cl.lookup y.1≠none:=by
 obtain ⟨cl,e,g1,_,g3⟩:=VA (env:=env) scope.names [] h
 refine ⟨cl,?_,fun y c q=>(g1 y c q).elim (fun z=>by cases z) fun z=>z,g3⟩
 simp only [closureFor]
 rw [<- bind_pure (pure cl:Sem _),<- e]
def UJ (N xs:List Str):List Str:=N.map fun y=>if y∈xs then "" else y
theorem ZaV (N xs:List Str):(UJ N xs).length=N.length:=length_map ..
theorem ZiG {N xs:List Str}{y:Str}{i:Nat}(h:(UJ N xs)[i]?=some y):(N[i]?=some y/\y ∉ xs)\/y="":=by
 unfold UJ at h
 rw [getElem?_map] at h
 cases e:N[i]? with
 | none=>rw [e] at h;cases h
 | some z =>
  rw [e] at h
  have h:(if z∈xs then ("":Str) else z)=y:=QG h
  by_cases q:z∈xs
  ·rw [if_pos q] at h;exact .inr h.symm
  ·rw [if_neg q] at h;subst h;exact .inl ⟨rfl,q⟩
abbrev hid2 (N:List Str)(xa xb:Str):List Str:=UJ N [xa,xb]
def Ye (X:Cx)(scope:Scope)(xs:List Str)(cl:List (Str×Addr))(C:Addr)(s₀:Qe)(H₀:Hp)(fp:List Addr):Cx :=
 {prog:=X.prog,w:=X.w,K:=X.K,mg:=X.mg,base:=X.base,A:=X.A,N:=UJ X.N xs++xs,s₀:=s₀,H₀:=H₀,env:=compEnvC scope cl C X.env,outer:=X.stack,stack:=X.stack,
  ex:=fp,fn:=fun _=>false,calm:=X.calm,pn:=[],xe:=fun _ _=>False }
abbrev Zen (X:Cx)(scope:Scope)(x:Str):=Ye X scope [x]
abbrev Zck (X:Cx)(scope:Scope)(xa xb:Str):=Ye X scope [xa,xb]
structure CompOkN (X:Cx)(scope:Scope)(xs:List Str):Prop where
 nd:(UJ X.N xs++xs).Nodup
 clos:∀ y∈scope.names,y.2=.free->X.env.kindOf y.1=some .cell\/X.env.kindOf y.1=some .free
 cell:∀ y∈scope.names,y.2≠.cell
 kind:scope.kind=.function
 names:∀ y∈scope.names,y.2=.local->scope.names.lookup y.1=some .local
 loc:∀ x∈xs,scope.names.lookup x=some .local
 own:∀ y∈X.N,y ∉ xs->scope.names.lookup y≠some .local
 noh:scope.names.lookup ("":Str)=none
abbrev CompOk (X:Cx)(scope:Scope)(x:Str):=CompOkN X scope [x]
abbrev CompOkT (X:Cx)(scope:Scope)(xa xb:Str):=CompOkN X scope [xa,xb]
def Vu (N:List Str)(names:List (Str×Pf))(scope:Scope)(xs:List Str):Bool :=
 decide ((UJ N xs++xs).Nodup)&&scope.names.all (fun y=>(y.2 != .free || names.lookup y.1 == some .cell || names.lookup y.1 == some .free)&&(y.2 != .cell&&(y.2 != .local || scope.names.lookup y.1 == some .local))) &&
 ((scope.kind == .function&&xs.all fun x=>scope.names.lookup x == some .local)&&N.all fun y=>decide (y∈xs) || scope.names.lookup y != some .local)&&scope.names.lookup ("":Str) == none
theorem CompOkN.of {X:Cx}{scope:Scope}{xs:List Str}(N:List Str)(st:Stmt)(hN:X.N=N)(hn:X.env.scope=Zj st)(chk:Vu N (Zj st).names scope xs=true):CompOkN X scope xs:=by
 unfold Vu at chk
 simp only [QL,decide_eq_true_eq,all_eq_true,Rg,bne_iff_ne,beq_iff_eq] at chk
 obtain ⟨⟨⟨c1,c2⟩,⟨c3,c4⟩,c5⟩,c6⟩:=chk
 refine ⟨by rw [hN];exact c1,fun y hy hf=>?_,fun y hy=>(c2 y hy).2.1,c3,fun y hy hl=>?_,c4,fun y hy hx=>(c5 y (by rw [<- hN];exact hy)).resolve_left hx,c6⟩
 ·show X.env.scope.names.lookup y.1=_\/X.env.scope.names.lookup y.1=_
  rw [hn]
  rcases (c2 y hy).1 with (z | z) | z
  ·exact absurd hf z
  ·exact .inl z
  ·exact .inr z
 ·rcases (c2 y hy).2.2 with z | z
  ·exact absurd hl z
  ·exact z
theorem CompOk.of {X:Cx}{scope:Scope}{x:Str}(N:List Str)(st:Stmt)(hN:X.N=N)(hn:X.env.scope=Zj st)(chk:Vu N (Zj st).names scope [x]=true):CompOk X scope x:=CompOkN.of N st hN hn chk
theorem CompOkT.of {X:Cx}{scope:Scope}{xa xb:Str}(N:List Str)(st:Stmt)(hN:X.N=N)(hn:X.env.scope=Zj st)(chk:Vu N (Zj st).names scope [xa,xb]=true):CompOkT X scope xa xb:=CompOkN.of N st hN hn chk
def tYes:TT:=fun _ H k=>k true H
def PCs (X:Cx)(cs:List Expr)(tc:TT):Prop:=(cs=[]/\tc=tYes)\/∃ c,cs=[c]/\PT X c tc
def Zam (J:It)(g:TG)(tc:TT)(te:TE)(n:Nat)(OK:St->St->Prop)(σ:St)(D:Addr)(Q:VK)(H1:Hp):Prop :=
 ∃ W : Nat->Nat->List V->Hp->Prop,(∃ m,W 0 m [] (upd H1 D (.lst [])))/\∀ i m ys H2,W i m ys H2 ->
  (J.stop i H2/\Q (.ref D) H2)\/(J.go i H2/\∃ (N:VK) (M:Hp->Prop),(∀ y H4,N y H4->H4 D=some (.lst ys)/\ys.length < Qi/\∃ m',m' < m/\W (i+1) m' (ys++[y]) (upd H4 D (.lst (ys++[y]))))/\(∀ H4,M H4->∃ m',m' < m/\W (i+1) m' ys H4) /\
   ∀ ws v H3,ws.length=n->J.yld i H2 v H3->g v (σ++ws) H3 fun σ' H'=>OK σ σ'/\tc σ' H' fun b H4=>if b=true then te σ' H4 N else M H4)
def tCW (wi:TI)(CW:It->St->Addr->VK->Hp->Prop):TE:=fun σ H Q=>wi σ H fun J H1=>∀ D,H1 D=none->CW J σ D Q H1
def CompW (J:It)(te:TE)(σ:St)(D:Addr)(Q:VK)(H1:Hp):Prop :=
 ∃ W:Nat->Nat->List V->Hp->Prop,(∃ m,W 0 m [] (upd H1 D (.lst [])))/\∀ i m ys H2,W i m ys H2 ->
  (J.stop i H2/\Q (.ref D) H2)\/(J.go i H2/\∃ N:VK,(∀ y H4,N y H4->H4 D=some (.lst ys)/\ys.length < Qi/\∃ m',m' < m/\W (i+1) m' (ys++[y]) (upd H4 D (.lst (ys++[y]))))/\∀ v H3,J.yld i H2 v H3->te (σ++[some v]) H3 N)
def Zpf (wi:TI)(te:TE):TE:=fun σ H Q=>wi σ H fun J H1=>∀ D,H1 D=none->CompW J te σ D Q H1
section
variable {X:Cx}{elt iter tg:Expr}{cs:List Expr}{xs:List Str}{pos:Pos}{scope:Scope}{wi:TI}{te:TE}{tc:TT}{g:TG}{OK:St->St->Prop}{CW:It->St->Addr->VK->Hp->Prop}
theorem Vk {prog:Qk}{w:Qv}{A:QF}{R:Oz->Qe->Prop}{s:Qe}{elt target iter:Expr}{cs:List Expr}{scope:Scope}{pos:Pos}{it acc:Qb}{env:Env}(I:Nat->Qe->Prop)
   (turn : ∀ n s,I n s->Qq (Qt prog w) A (pyNext it) (fun r s₁=>match r with
     | none=>R (.ok .next) s₁
     | some v=>Qq (Qt prog w) A (PV target it v) (fun _ s1'=>Qq (Qt prog w) A (Rt target env v) (fun _ s₂=>Qq (Qt prog w) A (forIn cs true fun c r=>if r=true then do let ok <- isTrue c env (eval c env);pure (Jo ok) else pure (Jo r)) (fun ok s2'=>if ok=true then Qq (Qt prog w) A (eval elt env) (fun x s₃ =>
         Qq (Qt prog w) A (call (.builtin "list.append") [acc,x]) (fun _ s₄=>∃ m,m < n/\I m s₄) (fun _ _=>False) s₃)
         (fun _ _=>False) s2' else ∃ m,m < n/\I m s2') (fun _ _=>False) s₂) (fun _ _=>False) s1') (fun _ _=>False) s₁) (fun _ _=>False) s)
   (n:Nat) (h:I n s) :
   JU (Qt prog w) A (.compLoop (.ListComp elt [⟨target,iter,cs,0⟩] scope pos) 0 it acc env) R s:=by
 refine codeAny_loop rfl I (fun n s hI=>?_) n h
 show Qq _ _ ((compTurn (.ListComp elt [⟨target,iter,cs,0⟩] scope pos) 0 it acc env).onRaise (fun x=>do noteFrame x env;theTreesLotGoes x)) _ _ s
 refine wpAny_noted ?_
 rw [compTurn_list]
 refine Qg (Gz (Qg (QS (turn n s hI) (fun r s₁ h₁=>?_) fun _ _ h'=>h'.elim)))
 cases r with
 | none=>exact Qp h₁
 | some v =>
   refine Qg (QS h₁ (fun _ s1' h1'=>?_) fun _ _ h'=>h'.elim)
   refine Qg (QS h1' (fun _ s₂ h₂=>Qg (QS h₂ (fun ok s₃ h₃=>?_) fun _ _ h'=>h'.elim)) fun _ _ h'=>h'.elim)
   cases ok with
   | false=>exact Qp ⟨rfl,h₃⟩
   | true =>
     exact Qg (Qg (QS h₃ (fun x s₄ h₄=>Qg (QS h₄ (fun _ s₅ h₅=>Qp (Qp ⟨rfl,h₅⟩)) fun _ _ h'=>h'.elim)) fun _ _ h'=>h'.elim))
theorem PCs.go {X:Cx}{cs:List Expr}{tc:TT}(h:PCs X cs tc)(pins:List (Addr×Obj))(s:Qe)(σ:St)(H:Hp)(Q:Bool->Hp->Prop)(I:Inv X pins σ H s)(q:tc σ H Q) :
 Qq (Qt X.prog X.w) X.A (forIn cs true fun c r=>if r=true then do let ok <- isTrue c X.env (eval c X.env);pure (Jo ok) else pure (Jo r)) (fun b s'=>∃ H',Inv X pins σ H' s'/\Q b H') X.xe s:=by
 rcases h with ⟨rfl,rfl⟩ | ⟨c,rfl,h⟩
 ·exact wpAny_tests_nil ⟨H,I,q⟩
 ·exact wpAny_tests_one (h pins s σ H Q I q)
theorem Zav {pins:List (Addr×Obj)}{σ:St}{H2:Hp}{s₂:Qe}{J:It}{fp:List Addr}{it:Addr}{tn:Nat->Heap->Prop}{cl:List (Str×Addr)}{E:Qb->Qe->Prop}{Q:VK}{RR:Qb->Addr->Oz->Qe->Prop}
 (O:CompOkN X scope xs) (hc:X.calm=true) (cl1:∀ y c,cl.lookup y=some c->X.env.cells.lookup y=some c) (cl2:∀ y∈scope.names,y.2=.free->cl.lookup y.1≠none)
 (hOK:∀ σ σ',OK σ σ'->∃ ws:St,ws.length=xs.length/\σ'=σ++ws) (hg:∀ cl C s₀ H₀ fp,PG (Ye X scope xs cl C s₀ H₀ fp) tg g) (hcn:∀ cl C s₀ H₀ fp,PCs (Ye X scope xs cl C s₀ H₀ fp) cs tc) (he:∀ cl C s₀ H₀ fp,PE (Ye X scope xs cl C s₀ H₀ fp) elt te)
 (I2:Inv X pins σ H2 s₂) (T:VG X.prog X.w X.K tg J fp it tn) (st:tn 0 s₂.heap) (f2:∀ b∈fp,Wl X pins H2 b)
 (h:∀ D,H2 D=none->Zam J g tc te xs.length OK σ D Q H2)
 (hRR:∀ D C H' s',Inv X pins σ H' s'->Wl X pins H' C->(∃ m,s'.heap.Ns C m)->Q (.ref D) H'->RR (.ref D) C (.ok .next) s') :
 Qq (Qt X.prog X.w) X.A (newList []) (fun acc s₃=>Qq (Qt X.prog X.w) X.A (newFunctionEnv scope X.env.globals cl [] X.env.qual none .none (some X.env)) (fun cenv s₄ =>
  JU (Qt X.prog X.w) X.A (.compStart (.ListComp elt [⟨tg,iter,cs,0⟩] scope pos) 0 (.ref it) acc { cenv with scope:=relabel scope X.env }) (RR acc cenv.locals) s₄) E s₃) E s₂:=by
 have hD:H2 s₂.heap.objs.size=none:=I2.hok.fresh (Qh _)
 refine Gj ?_
 have I3:Inv X pins σ (upd H2 s₂.heap.objs.size (.lst [])) { s₂ with heap:=s₂.heap.push { cls:=.type "list",data:=.seq ([]:List Qb).toArray } } :=
  I2.laid (t':=s₂.toks) (fun b u e=>Qd _ e) (Qh _) ⟨QC _,[],_,.nil,Qs _ rfl⟩
 have f3:∀ b∈fp,Wl X pins (upd H2 s₂.heap.objs.size (.lst [])) b:=fun b hb=>by
  obtain ⟨g0,g1⟩:=f2 b hb
  obtain ⟨o,e,_⟩:=T.obj 0 _ st b hb
  exact ⟨by rw [Zg (Qw (Qj e))];exact g0,g1⟩
 have st3:tn 0 (s₂.heap.push { cls:=.type "list",data:=.seq ([]:List Qb).toArray }):=T.keep _ _ _ st fun b hb o e=>Qd _ e
 obtain ⟨W,⟨m0,w0⟩,turn⟩:=h _ hD
 generalize hDe:s₂.heap.objs.size=D at I3 f3 w0 turn ⊢
 generalize hH3:upd H2 D (.lst [])=H3 at I3 f3 w0 turn ⊢
 generalize hs3:({ s₂ with heap:=s₂.heap.push { cls:=.type "list",data:=.seq ([]:List Qb).toArray } }:Qe)=s₃ at I3
 have st3':tn 0 s₃.heap:=by rw [<- hs3];exact st3
 have hobj:∀ b∈fp,b < s₃.heap.objs.size:=fun b hb=>by
  obtain ⟨o,e,_⟩:=T.obj 0 _ st3' b hb
  exact Qj e
 refine RB O.cell (by intro y hy;simp at hy) (fun h₁ hns₁ hsb₁=>?_) O.kind
 have old:∀ b o,s₃.heap.get? b=some o->h₁.get? b=some o:=fun b o e=>hsb₁.extBut b o (Qw (Qj e)) (Qd _ e)
 generalize hs4:({ s₃ with heap:=h₁,toks:=s₃.toks+([]:List (Str×Qb)).length }:Qe)=s₄
 have h4:s₄.heap=h₁:=by rw [<- hs4]
 have hX:∀ C,Wl X pins C s₃.heap.objs.size->True:=fun _ _=>trivial
 have ok':(Ye X scope xs cl s₃.heap.objs.size s₃ H3 fp).Ok:=by
  refine ⟨I3.ok.mod,O.kind,I3.ok.glob,I3.ok.blt,Qh _,?_,?_,?_,I3.ok.hd,I3.ok.frames,.inl rfl,?_,I3.bs,Qn I3.ok.bsz I3.sz,?_,?_,I3.stack,I3.stkFree⟩
  ·exact fun y z c e1 e2=>I3.ok.inj y z c (cl1 y c e1) (cl1 z c e2)
  ·intro y hk
   have hf:scope.names.lookup y=some .free:=by
    rcases hk with hk | hk
    ·rcases YK O.cell hk with q | q
     ·exact absurd rfl (O.cell _ (mem_of_lookup q))
     ·exact q.1
    ·rcases YK O.cell hk with q | q
     ·exact q
     ·cases q.2
   have:=cl2 _ (mem_of_lookup hf) rfl
   cases e:cl.lookup y with
   | none=>exact absurd e this
   | some c=>exact ⟨c,e⟩
  ·intro y c hf;cases hf
  ·intro b hb
   obtain ⟨g0,g1,g2,g3,g4,g5⟩:=f3 b hb
   exact ⟨Qw (hobj b hb),fun y c e=>g4 y c (cl1 y c e)⟩
  ·intro b o e hb
   obtain ⟨g0,g1,g2,g3,g4,g5⟩:=f3 b hb
   rcases g3 with g3 | g3
   ·exact I3.ok.noex b o e g3
   ·exact absurd (Qj e) (Go.mpr (Qn I3.ok.bsz g3))
  ·intro b hb hs
   obtain ⟨g0,g1,g2,g3,g4,g5⟩:=f3 b hb
   rcases mem_cons.mp (I3.stkSub b hs) with e | e
   ·exact g1 e
   ·exact g2 e
 have I4 : Inv (Ye X scope xs cl s₃.heap.objs.size s₃ H3 fp) [] (σ++Qy xs.length none) H3 s₄:=by
  obtain ⟨m,hm,hl⟩:=I3.loc
  refine ⟨ok',by rw [<- hs4];rfl,by rw [<- hs4];exact I3.bare,by rw [h4];exact Un.kept old,⟨_,by rw [h4];exact hns₁,?_⟩,?_,I3.hok.fresh (Qh _),fun y c e=>I3.freeC y c (cl1 y c e),?_,by rw [h4];exact I3.hok.kept old,?_⟩
  ·intro i y v e1 e2 e3
   have hlt:i < σ.length:=by
    rcases Nat.lt_or_ge i σ.length with z | z
    ·exact z
    ·rw [getElem?_append_right z] at e2
     have:=JR (mem_of_getElem? e2)
     cases this
   rw [getElem?_append_left hlt] at e2
   have hsm:∃ k,scope.names.lookup y=some k:=by
    rcases e3 with hk | hk | hk
    ·rcases YK O.cell hk with q | q
     ·exact ⟨_,q⟩
     ·exact ⟨_,q.1⟩
    ·rcases YK O.cell hk with q | q
     ·exact ⟨_,q⟩
     ·exact ⟨_,q.1⟩
    ·rcases YK O.cell hk with q | q
     ·exact ⟨_,q⟩
     ·exact ⟨_,q.1⟩
   obtain ⟨e1',hyx⟩:X.N[i]?=some y/\y ∉ xs:=by
    have e1:(UJ X.N xs++xs)[i]?=some y:=e1
    rw [getElem?_append_left (by rw [ZaV,<- I3.len];exact hlt)] at e1
    rcases ZiG e1 with z | z
    ·exact z
    ·obtain ⟨k,hk⟩:=hsm
     rw [z,O.noh] at hk;cases hk
   have hy:y∈X.N:=mem_of_getElem? e1'
   have hf:scope.names.lookup y=some .free:=by
    rcases e3 with hk | hk | hk
    ·rcases YK O.cell hk with q | q
     ·exact absurd q (O.own y hy hyx)
     ·exact q.1
    ·rcases YK O.cell hk with q | q
     ·exact absurd rfl (O.cell _ (mem_of_lookup q))
     ·exact q.1
    ·rcases YK O.cell hk with q | q
     ·exact q
     ·exact q.1
   have hk:=O.clos _ (mem_of_lookup hf) rfl
   have hv:Vis X.env.scope y:=by rcases hk with z | z;exact .inr (.inl z);exact .inr (.inr z)
   obtain ⟨u,ru,lu⟩:=hl i y v e1' e2 hv
   refine ⟨u,ru,?_⟩
   have hkc:(compEnvC scope cl s₃.heap.objs.size X.env).kindOf y=some .cell\/(compEnvC scope cl s₃.heap.objs.size X.env).kindOf y=some .free:=by
    rcases e3 with q | q | q
    ·rcases YK O.cell q with z | z
     ·exact absurd z (O.own y hy hyx)
     ·cases z.2
    ·exact .inl q
    ·exact .inr q
   rcases lu with ⟨q,_⟩ | ⟨_,c,hcl,hcc⟩
   ·rcases hk with z | z<;>(rw [q] at z;cases z)
   ·refine .inr ⟨hkc,?_⟩
    cases e:cl.lookup y with
    | none=>exact absurd e (cl2 _ (mem_of_lookup hf) rfl)
    | some c' =>
     have:=cl1 y c' e
     rw [hcl] at this
     cases this
     refine ⟨c,e,?_⟩
     rw [h4]
     obtain ⟨oc,ho,hd⟩:=hcc
     exact ⟨oc,old _ _ ho,hd⟩
  ·intro y c e
   obtain ⟨v,oc,ho,hd⟩:=I3.cell y c (cl1 y c e)
   exact ⟨v,oc,by rw [h4];exact old _ _ ho,hd⟩
  ·intro p hp;cases hp
  ·show (σ++Qy xs.length none).length=(UJ X.N xs++xs).length
   rw [length_append,length_append,ZaV,I3.len,length_replicate]
 have st4:tn 0 s₄.heap:=by rw [h4];exact T.keep _ _ _ st3' fun b hb o e=>old b o e
 have fpok:∀ {H':Hp},(∀ b∈fp,H' b=none)->∀ b∈fp,Wl (Ye X scope xs cl s₃.heap.objs.size s₃ H3 fp) [] H' b:=fun hn b hb=>by
  obtain ⟨g0,g1,g2,g3,g4,g5⟩:=f3 b hb
  refine ⟨hn b hb,Qw (hobj b hb),ok'.exfs b hb,.inl hb,fun y c e=>g4 y c (cl1 y c e),?_⟩
  intro p hp;cases hp
 have loop:JU (Qt X.prog X.w) X.A (.compLoop (.ListComp elt [⟨tg,iter,cs,0⟩] scope pos) 0 (.ref it) (.ref D) (compEnvC scope cl s₃.heap.objs.size X.env)) (RR (.ref D) s₃.heap.objs.size) s₄:=by
  refine Vk (fun n s'=>∃ i ys ws H',ws.length=xs.length/\Inv (Ye X scope xs cl s₃.heap.objs.size s₃ H3 fp) [] (σ++ws) H' s'/\tn i s'.heap/\(∀ b∈fp,H' b=none)/\W i n ys H') ?_ m0 ⟨0,[],_,H3,length_replicate,I4,st4,fun b hb=>(f3 b hb).1,w0⟩
  rintro n s5 ⟨i,ys,ws,H5,hws,I5,st5,fr5,w5⟩
  rcases turn i n ys H5 w5 with ⟨stop,q⟩ | ⟨go,N,M,hN,hM,step⟩
  ·refine Zs (T.done (Ye X scope xs cl s₃.heap.objs.size s₃ H3 fp) rfl rfl rfl hc i [] s5 _ H5 _ I5 (fpok fr5) st5 stop) fun r s6 ⟨hr,I6⟩=>?_
   subst hr
   obtain ⟨m6,hn6,_⟩:=I6.loc
   have IX:Inv X pins σ H5 s6:=I3.call' (ch:=fp) I6.os I6.base I6.hok I6.bare fun b hb=>by
    obtain ⟨g0,g1,g2,g3,g4,g5⟩:=f3 b hb
    exact ⟨g3,g1,g4,g5⟩
   exact hRR D _ H5 s6 IX (I3.fpOk (Qh _) I6.free) ⟨m6,hn6⟩ q
  ·refine Zs (T.item (Ye X scope xs cl s₃.heap.objs.size s₃ H3 fp) rfl rfl rfl hc i [] s5 _ H5 _ I5 (fpok fr5) st5 go) fun r s6 ⟨u,hr,h6⟩=>?_
   subst hr
   refine Zs h6 fun _ s7 ⟨v,H7,I7,r7,y7,st7,fr7⟩=>?_
   have I7':=I7.pinned (fpok fr7) (T.obj _ _ st7)
   refine Zs (hg cl s₃.heap.objs.size s₃ H3 fp _ s7 _ H7 v u _ I7' r7 (step ws v H7 hws y7)) fun _ s8 ⟨σ8,H8,I8,o8,q8⟩=>?_
   obtain ⟨ws',hws',e8⟩:=hOK σ σ8 o8
   subst e8
   refine Zs (PCs.go (hcn cl s₃.heap.objs.size s₃ H3 fp) _ s8 _ H8 _ I8 q8) fun bb s8b ⟨H8b,I8b,q8b⟩=>?_
   cases bb with
   | false =>
    obtain ⟨m',hm',w9⟩:=hM H8b q8b
    refine ⟨m',hm',i+1,ys,ws',_,hws',I8b.unpinned (pins:=[]),T.keep _ _ _ st7 fun b hb o e=>(I8b.pin (b,o) (mem_append_right _ (mem_append_right _ (XD hb e)))).1,fun b hb=>?_,w9⟩
    obtain ⟨o,e,d⟩:=T.obj _ _ st7 b hb
    exact (I8b.pin (b,o) (mem_append_right _ (mem_append_right _ (XD hb e)))).2.1
   | true =>
    refine Zs (he cl s₃.heap.objs.size s₃ H3 fp _ s8b _ H8b _ I8b q8b) fun uy s9 ⟨y,H9,I9,r9,n9⟩=>?_
    obtain ⟨hl9,hz9,m',hm',w9⟩:=hN y H9 n9
    refine Zs (Ys (X:=Ye X scope xs cl s₃.heap.objs.size s₃ H3 fp) _ s9 _ H9 (.ref D) [y] (.ref D) [uy] (fun v H'=>H'=upd H9 D (.lst (ys++[y]))) I9 rfl (.cons r9 .nil) ⟨D,ys,y,rfl,rfl,hl9,hz9,rfl⟩) fun _ s10 ⟨_,H10,I10,_,e10⟩=>?_
    subst e10
    refine ⟨m',hm',i+1,ys++[y],ws',_,hws',I10.unpinned (pins:=[]),T.keep _ _ _ st7 fun b hb o e=>(I10.pin (b,o) (mem_append_right _ (mem_append_right _ (XD hb e)))).1,fun b hb=>?_,w9⟩
    obtain ⟨o,e,d⟩:=T.obj _ _ st7 b hb
    exact (I10.pin (b,o) (mem_append_right _ (mem_append_right _ (XD hb e)))).2.1
 exact codeAny_compStart_list loop (T.self _ 0 _ _ _ st4 loop)
theorem ZdF (O:CompOkN X scope xs)(hc:X.calm=true)(hi:PI X tg iter wi)(conv:∀ J σ D Q H,σ.length=X.N.length->CW J σ D Q H->Zam J g tc te xs.length OK σ D Q H)(hOK:∀ σ σ',OK σ σ'->∃ ws:St,ws.length=xs.length/\σ'=σ++ws)(hg:∀ cl C s₀ H₀ fp,PG (Ye X scope xs cl C s₀ H₀ fp) tg g)(hcn:∀ cl C s₀ H₀ fp,PCs (Ye X scope xs cl C s₀ H₀ fp) cs tc)(he:∀ cl C s₀ H₀ fp,PE (Ye X scope xs cl C s₀ H₀ fp) elt te)
 (hs:∀ v,GW iter X.env v=pure v:=by intro _;rfl):PE X (.ListComp elt [⟨tg,iter,cs,0⟩] scope pos) (tCW wi CW):=by
 intro pins s σ H Q I h
 obtain ⟨cl,hcl,cl1,cl2⟩:=Vp (scope:=scope) (env:=X.env) fun y hy hf=>I.ok.has _ (O.clos y hy hf)
 rw [eval_ListComp]
 refine Sk (use:=none) rfl hs hcl O.kind O.names (Zs (hi pins s σ H _ I h) fun v s1 h1=>Zs h1 fun itv s2 h2=>?_)
 obtain ⟨it,fp,tn,J,H2,e,I2,T,st2,f2,q⟩:=h2
 subst e
 refine Zav (RR:=fun acc C=>compPost (Qt X.prog X.w) X.A X.xe none (EP X pins σ Q) acc C) O hc cl1 cl2 hOK hg hcn he I2 T st2 f2 (fun z hz=>conv _ _ z _ _ I2.len (q z hz)) ?_
 intro D C H' s' I' ⟨g0,g1,g2,g3,g4,g5⟩ ⟨m,hm⟩ hq
 exact ⟨m,hm,fun h' hs'=>⟨.ref D,H',I'.turned (t':=s'.toks) (fun b o hb e=>(hs'.2 b hb).trans e) g0 g1 g3 g4 g5,rfl,hq⟩⟩
theorem ZeR {i:Nat}{y:Str}{py spos:Pos}(O:CompOkN X scope xs)(hc:X.calm=true)(hN:X.N.Nodup)(hiN:X.N[i]?=some y)(hy:Loc X.env.scope y)(hi:PI X tg iter wi)(conv:∀ J σ D Q H,σ.length=X.N.length->CW J σ D Q H->Zam J g tc te xs.length OK σ D Q H)(hOK:∀ σ σ',OK σ σ'->∃ ws:St,ws.length=xs.length/\σ'=σ++ws)(hg:∀ cl C s₀ H₀ fp,PG (Ye X scope xs cl C s₀ H₀ fp) tg g)(hcn:∀ cl C s₀ H₀ fp,PCs (Ye X scope xs cl C s₀ H₀ fp) cs tc)(he:∀ cl C s₀ H₀ fp,PE (Ye X scope xs cl C s₀ H₀ fp) elt te)
 (hsw:To (.ListComp elt [⟨tg,iter,cs,0⟩] scope pos) (some (.Name y py)) spos.line X.env=pure true) (hf:X.fn y=true\/X.env.scope.names.lookup y=some .local:=by first | exact .inl rfl | exact .inr rfl | assumption)
 (hs:∀ v,GW iter X.env v=pure v:=by intro _;rfl):PS X (.Assign [.Name y py] (.ListComp elt [⟨tg,iter,cs,0⟩] scope pos) spos) (ZgH (tCW wi CW) (Vx i)):=by
 intro pins s σ H D I h
 obtain ⟨cl,hcl,cl1,cl2⟩:=Vp (scope:=scope) (env:=X.env) fun y hy hf=>I.ok.has _ (O.clos y hy hf)
 rw [exec_Assign_Name_used _ _ _ _ hsw]
 refine Qg (Gz (Qg ?_))
 show Qq _ X.A (do let _ <- comprehension (.ListComp elt [⟨tg,iter,cs,0⟩] scope pos) scope X.env _ (newList []) false (eval iter X.env) (some (Rt (.Name y py) X.env))) _ _ s
 refine Qg (QS (Sk (use:=some (Rt (.Name y py) X.env)) (Q:=fun _ s'=>SP X pins D .next s') rfl hs hcl O.kind O.names
  (Zs (hi pins s σ H _ I h) fun v s1 h1=>Zs h1 fun itv s2 h2=>?_)) (fun _ s' hq=>Qp (Qp hq)) fun _ _ e=>e)
 obtain ⟨it,fp,tn,J,H2,e,I2,T,st2,f2,q⟩:=h2
 subst e
 refine Zav (RR:=fun acc C=>compPost (Qt X.prog X.w) X.A X.xe (some (Rt (.Name y py) X.env)) (fun _ s'=>SP X pins D .next s') acc C) O hc cl1 cl2 hOK hg hcn he I2 T st2 f2 (fun z hz=>conv _ _ z _ _ I2.len (q z hz)) ?_
 intro Dl C H' s' I' ⟨g0,g1,g2,g3,g4,g5⟩ ⟨m,hm⟩ hq
 show Qq _ X.A (Rt (.Name y py) X.env (.ref Dl)) _ _ _
 refine OM (ZcZ I' hN hiN hy (v:=.ref Dl) rfl (fun s'' I'' ⟨a,sb,ha⟩=>?_) hf)
 have haC:C≠a:=by
  rcases ha with z | z
  ·rw [z];exact g1
  ·exact fun z'=>g4 y a z z'.symm
 exact ⟨m,hm.sameBut sb haC,fun h' hs'=>⟨_,H',I''.turned (t':=s''.toks) (fun b o hb e=>(hs'.2 b hb).trans e) g0 g1 g3 g4 g5,hq⟩⟩
end
theorem ok1:∀ σ σ':St,(∃ w,σ'=σ++[w])->∃ ws:St,ws.length=[x].length/\σ'=σ++ws:=fun _ _ ⟨w,e⟩=>⟨[w],rfl,e⟩
theorem set1 {σ:St}{w v:Option V}{n:Nat}(h:σ.length=n):(σ++[w]).set n v=σ++[v]:=by subst h;simp
theorem CompW.n {J:It}{te:TE}{σ:St}{D:Addr}{Q:VK}{H:Hp}{n:Nat}(hn:σ.length=n)(h:CompW J te σ D Q H):Zam J (Vx n) tYes te 1 (fun σ σ'=>∃ w,σ'=σ++[w]) σ D Q H:=by
 obtain ⟨W,w0,t⟩:=h
 refine ⟨W,w0,fun i m ys H2 w2=>(t i m ys H2 w2).imp (fun z=>z) fun ⟨go,N,hN,hy⟩=>⟨go,N,fun _=>False,hN,fun _ z=>z.elim,fun ws v H3 hl y=>?_⟩⟩
 match ws,hl with
 | [w],_ =>
  show (∃ w',(σ++[w]).set n (some v)=σ++[w'])/\te ((σ++[w]).set n (some v)) H3 N
  rw [set1 hn]
  exact ⟨⟨_,rfl⟩,hy v H3 y⟩
section
variable {X:Cx}{elt iter:Expr}{x:Str}{px pos:Pos}{scope:Scope}{wi:TI}{te:TE}
theorem Zip (O:CompOk X scope x):∀ cl C s₀ H₀ fp,PG (Ye X scope [x] cl C s₀ H₀ fp) (.Name x px) (Vx X.N.length):=fun cl C s₀ H₀ fp =>
 ZA (X:=Ye X scope [x] cl C s₀ H₀ fp) O.nd (show (UJ X.N [x]++[x])[X.N.length]?=some x by rw [<- ZaV X.N [x]];simp) (.inl (RC (O.loc x (mem_cons_self ..)))) (.inr (RC (O.loc x (mem_cons_self ..))))
theorem Zah (O:CompOk X scope x)(hc:X.calm=true)(hi:PI X (.Name x px) iter wi)(he:∀ cl C s₀ H₀ fp,PE (Zen X scope x cl C s₀ H₀ fp) elt te)
 (hs:∀ v,GW iter X.env v=pure v:=by intro _;rfl):PE X (.ListComp elt [⟨.Name x px,iter,[],0⟩] scope pos) (Zpf wi te) :=
 ZdF (CW:=fun J σ D Q H=>CompW J te σ D Q H) O hc hi (fun _ _ _ _ _ hl h=>h.n hl) ok1 (Zip O) (fun _ _ _ _ _=>.inl ⟨rfl,rfl⟩) he hs
end
theorem ZbO {lo:Int}{n:Nat}{te:TE}{σ:St}{D:Addr}{Q:VK}{H:Hp}(hn:n<=Qi)(Pv:Nat->List V->Hp->Prop)(h0:Pv 0 [] (upd H D (.lst [])))
 (hl:∀ i ys H,Pv i ys H->ys.length=i)
 (hs:∀ i ys H,i < n->Pv i ys H->te (σ++[some (.int (lo+i))]) H fun y H4=>H4 D=some (.lst ys)/\Pv (i+1) (ys++[y]) (upd H4 D (.lst (ys++[y])))) (hd:∀ ys H,Pv n ys H->Q (.ref D) H):CompW (Itr lo n) te σ D Q H:=by
 refine ⟨fun i m ys H=>m=n - i/\i<=n/\Pv i ys H,⟨n,by simp,QC _,h0⟩,?_⟩
 rintro i m ys H2 ⟨rfl,hi,p⟩
 by_cases hlt:i < n
 ·have hlen:=hl i ys _ p
  refine .inr ⟨hlt,_,fun y H4 (q:H4 D=some (.lst ys)/\Pv (i+1) (ys++[y]) (upd H4 D (.lst (ys++[y]))))=>⟨q.1,by omega,n - (i+1),by omega,rfl,hlt,q.2⟩,fun v H3 y=>?_⟩
  obtain ⟨e,e'⟩:=y
  subst e e'
  exact hs i ys _ hlt p
 ·have e:i=n:=by omega
  subst e
  exact .inl ⟨Qh _,hd ys H2 p⟩
theorem ZiN {K:Qa}{a:Addr}{xs:List V}{te:TE}{σ:St}{D:Addr}{Q:VK}{H:Hp}(hn:xs.length<=Qi)(Pv:Nat->List V->Hp->Prop)(h0:Pv 0 [] (upd H D (.lst [])))
 (hl:∀ i ys H,Pv i ys H->ys.length=i/\SqT K H a xs)
 (hs:∀ i x ys H,xs[i]?=some x->Pv i ys H->te (σ++[some x]) H fun y H4=>H4 D=some (.lst ys)/\Pv (i+1) (ys++[y]) (upd H4 D (.lst (ys++[y])))) (hd:∀ ys H,Pv xs.length ys H->Q (.ref D) H):CompW (Itt K a) te σ D Q H:=by
 refine ⟨fun i m ys H=>m=xs.length - i/\i<=xs.length/\Pv i ys H,⟨xs.length,by simp,QC _,h0⟩,?_⟩
 rintro i m ys H2 ⟨rfl,hi,p⟩
 obtain ⟨hlen,q⟩:=hl i ys _ p
 by_cases hlt:i < xs.length
 ·refine .inr ⟨⟨xs,xs[i],q,by simp [hlt]⟩,_,fun y H4 (q:H4 D=some (.lst ys)/\Pv (i+1) (ys++[y]) (upd H4 D (.lst (ys++[y]))))=>⟨q.1,by omega,xs.length - (i+1),by omega,rfl,hlt,q.2⟩,fun v H3 y=>?_⟩
  obtain ⟨e,y⟩:=y
  subst e
  exact hs i v ys _ (y xs q) p
 ·have e:i=xs.length:=by omega
  subst e
  exact .inl ⟨⟨xs,q,Qh _⟩,hd ys H2 p⟩
section
variable {X:Cx}{tg:Expr}
end
section
variable {X:Cx}
theorem Zfa:∀{ys:List Str}{us:List Qb},Vals (ys.map V.str) us->PL us ys
 | [],_,.nil=>.nil
 | y::ys,_,.cons r t=>by obtain ⟨k,rfl⟩:=r;exact .cons _ _ (Zfa t)
theorem ZfA:MtR X "str.join" (fun x xs H Q=>∃ sep a ys,x=.str sep/\xs=[.ref a]/\SqL X.K H a (ys.map V.str)/\(ys.map (·.length)).sum+ys.length * sep.length<=16777216/\Q (.str (Txt.join sep ys)) H):=by
 intro pins s σ H x xs v us Q I rx rv h
 obtain ⟨sep,a,ys,rfl,rfl,hq,hz,q⟩:=h
 obtain ⟨t,rfl⟩:=rx
 obtain ⟨u,rfl,ru⟩:=Yt rv
 cases ru
 obtain ⟨its,r,p,_⟩:=I.list hq
 exact join_list p.isList (by simpa using Zfa r) hz fun t' k=>⟨.str _,H,I.tok k,⟨_,rfl⟩,q⟩
theorem Zhh:SlR X (fun x lo hi H Q=>∃ z,x=.str z/\z.length<=Qi/\Q (.str (Txt.slice z lo hi)) H):=by
 intro pins s σ H x v vl vu lo hi sl Q I rx hs pl pu h
 obtain ⟨z,rfl,hz,q⟩:=h
 obtain ⟨t,rfl⟩:=rx
 refine ⟨"str",_,F.slot_str_getitem.lookup,typeIs_str _ _ _,?_⟩
 have fin:∀ (t':Tok) (k:Nat),EP X pins σ Q (.str (Txt.slice z lo hi) t') { s with toks:=k }:=fun t' k=>⟨.str _,H,I.tok k,⟨_,rfl⟩,q⟩
 obtain ⟨o,ho,hc,hd⟩:=hs
 cases pl<;>cases pu
 ·exact Jh (l:=none) (u:=none) (st:=none) ⟨_,ho,hc,hd⟩ rfl (PZ ⟨Qn (Txt.slice_le z _ _) hz,fin⟩)
 ·rename_i j uj
  exact Jh (l:=none) (u:=some (j,uj)) (st:=none) ⟨_,ho,hc,hd⟩ rfl (PZ ⟨Qn (Txt.slice_le z _ _) hz,fin⟩)
 ·rename_i i ui
  exact Jh (l:=some (i,ui)) (u:=none) (st:=none) ⟨_,ho,hc,hd⟩ rfl (PZ ⟨Qn (Txt.slice_le z _ _) hz,fin⟩)
 ·rename_i i ui j uj
  exact Jh (l:=some (i,ui)) (u:=some (j,uj)) (st:=none) ⟨_,ho,hc,hd⟩ rfl (PZ ⟨Qn (Txt.slice_le z _ _) hz,fin⟩)
theorem Zik:Yz X (.type "str") (fun xs H Q=>(∃ i,xs=[.int i]/\i.natAbs.log2 < 1920/\Q (.str (toString i)) H)\/∃ z,xs=[.str z]/\Q (.str z) H):=by
 intro pins s σ H xs us Q I r h
 rcases h with h | ⟨z,rfl,q⟩
 ·exact ZeE pins s σ H xs us Q I r h
 ·obtain ⟨u,rfl,t,rfl⟩:=Yt r
  exact PySem.P.str_of_str ⟨.str _,H,I,⟨_,rfl⟩,q⟩
end
mutual
inductive DataOf (H:Hp):V->Ta->Prop
 | non:DataOf H .non .none
 | bl (b):DataOf H (.bl b) (.bool b)
 | int (i):DataOf H (.int i) (.int i)
 | str (x):DataOf H (.str x) (.str x)
 | lst {a xs ds}:H a=some (.lst xs)->DatasOf H xs ds->DataOf H (.ref a) (.list ds)
 | tup {a xs ds}:H a=some (.tup xs)->DatasOf H xs ds->DataOf H (.ref a) (.tuple ds)
inductive DatasOf (H:Hp):List V->List Ta->Prop
 | nil:DatasOf H [] []
 | cons {v d vs ds}:DataOf H v d->DatasOf H vs ds->DatasOf H (v::vs) (d::ds)
end
section
variable {P:Qk}{w:Qv}{H:Hp}{h:Heap}
mutual
theorem DataOf.reads (hok:HOk P w H h):∀{v d}(u:Qb),DataOf H v d->RelV v u->d.hasDict=false/\∃ as,Reads h u d as
 | _,_,u,.non,r=>by cases (show u=.none from r);exact ⟨rfl,_,.none⟩
 | _,_,u,.bl b,r=>by cases (show u=.bool b from r);exact ⟨rfl,_,.bool b⟩
 | _,_,u,.int i,r=>by obtain ⟨t,e⟩:=(show ∃ t,u=.int i t from r);subst e;exact ⟨rfl,_,.int i t⟩
 | _,_,u,.str x,r=>by obtain ⟨t,e⟩:=(show ∃ t,u=.str x t from r);subst e;exact ⟨rfl,_,.str x t⟩
 | _,_,u,.lst (a:=a) (xs:=xs) e q,r=>by
  cases (show u=.ref a from r)
  obtain ⟨_,its,n,rv,g⟩:=(show ObjOk P w H h a (.lst xs) from hok a _ e)
  obtain ⟨nd,as,ra⟩:=DatasOf.reads hok its q rv
  exact ⟨by simpa [RD] using nd,_,.list g rfl rfl (by simpa using ra)⟩
 | _,_,u,.tup (a:=a) (xs:=xs) e q,r=>by
  cases (show u=.ref a from r)
  obtain ⟨_,its,rv,o,g,c,n,d⟩:=(show ObjOk P w H h a (.tup xs) from hok a _ e)
  obtain ⟨nd,as,ra⟩:=DatasOf.reads hok its q rv
  exact ⟨by simpa [RD] using nd,_,.tuple g c d (by simpa using ra)⟩
theorem DatasOf.reads (hok:HOk P w H h):∀{vs ds}(us:List Qb),DatasOf H vs ds->Vals vs us->Pj ds=false/\∃ as,ReadsAll h us ds as
 | _,_,_,.nil,.nil=>⟨rfl,_,.nil⟩
 | _,_,_,.cons r t,.cons rv tv=>by
  obtain ⟨n1,as,r1⟩:=DataOf.reads hok _ r rv
  obtain ⟨n2,bs,r2⟩:=DatasOf.reads hok _ t tv
  exact ⟨by simp [Pj,n1,n2],_,.cons r1 r2⟩
end
end
section
variable {X:Cx}
theorem YU (hg:X.A.guards=some [])(hu:X.A.units+64 < Re):Yz X (.builtin "repr") (fun xs H Q=>∃ x d,xs=[x]/\DataOf H x d/\d.showable=true/\d.shown.length<=Qi/\d.depth<=60/\Q (.str d.shown) H):=by
 intro pins s σ H xs us Q I r h
 obtain ⟨x,d,rfl,dd,hs,hz,hd,q⟩:=h
 obtain ⟨u,rfl,ru⟩:=Yt r
 have fin:∀ (t':Tok) (k:Nat),EP X pins σ Q (.str d.shown t') { s with toks:=k }:=fun t' k=>⟨.str _,H,I.tok k,⟨_,rfl⟩,q⟩
 obtain ⟨nd,as,rd⟩:=DataOf.reads I.hok u dd ru
 cases rd with
 | none=>exact PySem.P.repr_of_none (fin _ _)
 | bool b=>exact PySem.P.repr_of_bool (fin _ _)
 | int i t=>exact PySem.P.repr_of_int (by simpa [PyData.showable] using hs) (fin _ _)
 | str x t=>exact PySem.P.repr_of_str (fin _ _) hz
 | list h1 h2 h3 h4=>exact repr_of_reads' (Reads.list h1 h2 h3 h4) hs (fun z=>by rw [nd] at z;cases z) hg (by omega) (fun _ _ e=>e) (fun h' t' k hk=>⟨.str _,H,I.kept (t':=k) hk,⟨_,rfl⟩,q⟩) hz
 | tuple h1 h2 h3 h4=>exact repr_of_reads' (Reads.tuple h1 h2 h3 h4) hs (fun z=>by rw [nd] at z;cases z) hg (by omega) (fun _ _ e=>e) (fun h' t' k hk=>⟨.str _,H,I.kept (t':=k) hk,⟨_,rfl⟩,q⟩) hz
 | dict h1 h2 h3 h4 h5=>cases nd
end
def Def (P:Qk)(w:Qv)(K:Qa)(mg:Str->Option Qb)(base:Heap)(k:Nat)(x:Str)(ps:List Str)(sp:Sp):Prop :=
 ∃ f fd,FnOk P w K mg base ZC k f fd ps sp/\Binds K fd ps []/\GO K (.ref f)=true/\mg x=some (.ref f)
theorem Def.mono {P:Qk}{w:Qv}{K:Qa}{mg:Str->Option Qb}{base:Heap}{j k:Nat}{x:Str}{ps:List Str}{sp:Sp}(D:Def P w K mg base j x ps sp)(h:j<=k):Def P w K mg base k x ps sp :=
 let ⟨f,fd,F,b,kp,m⟩:=D;⟨f,fd,F.mono h,b,kp,m⟩
section
variable {X:Cx}{k:Nat}{x:Str}{ps:List Str}{sp:Sp}{p pos:Pos}{e:Expr}{es:List Expr}{t:TA}
theorem ZI (D:Def X.prog X.w X.K X.mg X.base k x ps sp)(hr:Room k X.A)(ha:PA X (e::es) t)(hg:Gl X x:=by rfl)(hdb:(x == ("__debug__":Str))=false:=by decide)
 (he:QE (e::es) X.env=(false,eval e X.env)::QE es X.env:=by rfl) (hpl:(Jg pos (QE es X.env)).any (·.1)=false:=by rfl) :
 PE X (.Call (.Name x p) (e::es) [] pos) (Zgl sp [] E0 t):=by
 obtain ⟨f,fd,F,b,kp,m⟩:=D
 exact Zme F hr hg m kp b .nil Zde ha hdb he hpl
end
def Kp (p:Addr)(H H':Hp):Prop:=∀ q o,q≠p->H q=some o->H' q=some o
theorem Kp.trans {p:Addr}{H H1 H2:Hp}(a:Kp p H H1)(b:Kp p H1 H2):Kp p H H2:=fun q o n h=>b q o n (a q o n h)
theorem Kp.upd (p:Addr)(H:Hp)(o:HO):Kp p H (upd H p o):=fun q u n h=>by rw [Zg n];exact h
theorem Same.kp {H H':Hp}(a:Same H H')(p:Addr):Kp p H H':=fun q o _ h=>a q o h
theorem Zk {H:Hp}{p:Addr}(h:H p=none)(o:HO):Same H (upd H p o):=fun b u q=>by rw [Zg (Zt q h)];exact q
def BoxAt (H:Hp)(p:Addr)(n:Nat):Prop:=∃ a b c:Int,H p=some (.lst [.int a,.int b,.int c])/\0<=a/\0<=c/\c<=n
theorem BoxAt.same {H H':Hp}{p:Addr}{n:Nat}(h:BoxAt H p n)(s:Same H H'):BoxAt H' p n:=let ⟨a,b,c,e,r⟩:=h;⟨a,b,c,s _ _ e,r⟩
theorem BoxAt.le {H:Hp}{p:Addr}{n m:Nat}(h:BoxAt H p n)(l:n<=m):BoxAt H p m:=let ⟨a,b,c,e,h1,h2,h3⟩:=h;⟨a,b,c,e,h1,h2,by omega⟩
def Zbj (M:Int):Sp:=fun vs H Q _=>∃(p:Addr)(n:Nat)(m:Int),vs=[.ref p,.int m]/\BoxAt H p n/\n<=1000000/\0 < m/\m < M/\∀(r:Int)(H':Hp),0<=r->r < m->BoxAt H' p (n+1)->Kp p H H'->Q (.int r) H'
def Ziz (K:Qa):Sp:=fun vs H Q _=>∃(a:Addr)(ns:List Int)(k:Int),vs=[.ref a,.int k]/\SqL K H a (ns.map V.int)/\0<=k/\∀(r:Int),Q (.int r) H
def Zkr (K:Qa):Sp:=fun vs H Q _=>∃(a:Addr)(ns:List Int)(k:Int),vs=[.ref a,.int k]/\SqL K H a (ns.map V.int)/\0<=k/\k<=1000/\∀(p:Addr)(H':Hp),H p=none->BoxAt H' p 0->Same H H'->Q (.ref p) H'
theorem ZfJ {n:Nat}(h:n<=1000):n<=sizeLine:=GH (Ziu h)
theorem ZbB:∀ (rest:List Str) (acc:Array Nat),(rest.foldl (fun acc p=>acc++(QA "").cps++p.cps) acc).toList=acc.toList++rest.flatMap (·.cps.toList)
 | [],acc=>by simp
 | p::r,acc=>by
  have e:(QA "").cps=#[]:=by decide +kernel
  rw [Rf,ZbB r,Sb,e]
  simp
theorem WU:∀ ys:List Str,(Txt.join (QA "") ys).cps.toList=ys.flatMap (·.cps.toList)
 | []=>rfl
 | y::r=>by
  show (OD (fun acc p=>acc++(QA "").cps++p.cps) y.cps r).toList=_
  rw [ZbB];rfl
theorem Yr (x:Str):x.length=x.cps.toList.length:=by simp [Str.length]
theorem ZhA (s e:Int)(i j:Nat)(hs:s=i)(he:e=j):sliceRange s e 1=(Gd (j - i)).map (i+·):=by
 subst hs he
 unfold sliceRange
 simp only [show (1:Int) > 0 by decide,if_true]
 have e3:(if (i:Int) < (j:Int) then ((j:Int) - i+1 - 1) / 1 else 0).toNat=j - i:=by
  split
  ·rw [OW];omega
  ·omega
 rw [e3]
 apply Tg
 intro k hk
 omega
theorem UG (z:Str)(lo hi:Option Int):(Txt.slice z lo hi).cps.toList=(z.cps.toList.drop (HT.sIx z.length 0 lo)).take (HT.sIx z.length z.length hi - HT.sIx z.length 0 lo):=by
 have key:Tk lo hi 1 z.length=(Gd (HT.sIx z.length z.length hi - HT.sIx z.length 0 lo)).map (HT.sIx z.length 0 lo+·):=by
  unfold Tk
  refine ZhA _ _ _ _ ?_ ?_
  ·cases lo with
   | none=>rfl
   | some i=>simp only [HT.sIx,show (1:Int) > 0 by decide,if_true];split<;>omega
  ·cases hi with
   | none=>rfl
   | some i=>simp only [HT.sIx,show (1:Int) > 0 by decide,if_true];split<;>omega
 have hj:HT.sIx z.length z.length hi<=z.length:=HT.sIx_le _ _ (Qh _) hi
 unfold Txt.slice
 rw [key]
 split
 ·rename_i h
  simp only [beq_self_eq_true,Bool.true_and,length_map,Sc,beq_iff_eq] at h
  have h0:HT.sIx z.length 0 lo=0\/z.length=0:=by omega
  rcases h0 with h0 | h0
  ·rw [h0] at h ⊢
   rw [List.drop_zero,h,Yr,JL]
  ·have e:z.cps.toList=[]:=PR (by rw [<- Yr];exact h0)
   rw [e];simp
 ·show (List.filterMap (fun k=>z.cps[k]?) ((Gd _).map _)).toArray.toList=_
  rw [OB]
  generalize HT.sIx z.length 0 lo=i at *
  generalize HT.sIx z.length z.length hi - i=n at *
  have gen:∀ (n i:Nat),List.filterMap ((fun k=>z.cps[k]?) ∘ (i+·)) (Gd n)=(z.cps.toList.drop i).take n:=by
   intro n
   induction n with
   | zero=>intro i;simp
   | succ n ih =>
    intro i
    rw [Tb,List.filterMap_append,ih,take_add_one,OE]
    congr 1
    simp only [JO,List.filterMap_nil,Function.comp,Jt]
    cases z.cps[i+n]?<;>rfl
  rw [gen]
theorem ZcH (x y:Str):(x++y).cps.toList=x.cps.toList++y.cps.toList:=by
 show (x.cps++y.cps).toList=_
 simp
theorem Xd (x y:Str):(x++y).length=x.length+y.length:=by rw [Yr,ZcH,length_append,<- Yr,<- Yr]
def ZbV (c:Nat):Bool:=decide (97<=c)&&decide (c<=122)
def VH (c:Nat):Bool:=decide (32<=c)&&decide (c<=126)
theorem Zin {X:Cx}{K:Qa}(hK:X.K=K):Yz X (.builtin "len") (fun xs H Q=>∃ x n,xs=[x]/\Zje K x H n/\Q (.int n) H):=by subst hK;exact ZjU
theorem ZdG {X:Cx}{K:Qa}(hK:X.K=K):IxR X (rIxL K):=by subst hK;exact ZB
@[reducible] def notStar:Expr->Bool
 | .Starred ..=>false
 | _=>true
theorem ZjX {e:Expr}{es:List Expr}{env:Env}(h:notStar e=true):QE (e::es) env=(false,eval e env)::QE es env:=by
 cases e<;>first | rfl | cases h
section
variable {X:Cx}{k:Nat}{x:Str}{ps:List Str}{sp:Sp}{p pos:Pos}{e:Expr}{es:List Expr}{te:TE}{t:TA}
theorem Wk (ha:PE X e te)(hr:PA X es t)(h:notStar e=true):PA X (e::es) (XZ te t):=Yv ha hr (ZjX h)
theorem Zb (ha:PE X e te)(hr:PA X es t)(h:notStar e=true:=by rfl):PA X (e::es) (XZ te t):=Yv ha hr (ZjX h)
end
section
variable {X:Cx}
theorem ZjM:Xe X (Jn .FloorDiv) (rI (fun _ j=>0 < j/\j < 2 ^ 62) fun i j=>.int (i / j)):=opI fun i j _ _ _ _ _ hc q=>by
 have h1:(0:Int) < j:=hc.1
 have h2:j < 2 ^ 62:=hc.2
 refine floordiv_int (by omega) (by rw [JD i (by omega)];exact q) (.inl (PyProof.noPylong_of_log2 ?_))
 have h3:j.natAbs≠0:=by omega
 have h4:j.natAbs < 2 ^ 9000:=QD (show j.natAbs < 2 ^ 62 by omega) (RE (by decide) (by decide))
 exact (NK h3).mpr h4
end
section
variable {X:Cx}
end
section
variable {X:Cx}{tg:Expr}
end
theorem ZbG {prog:Qk}{w:Qv}{A:QF}{it:Addr}{fp:List Addr}{n:Nat}{P:Nat->Qb->Prop}{St:Nat->Heap->Prop}(D:Draws prog w A it fp n P St) :
 Draws prog w A it fp (n+1) (fun i v=>∃ j,i=j+1/\P j v) (fun i h=>∃ j,i=j+1/\St j h) where
 live:=fun i h ⟨j,_,st⟩=>D.live j h st
 frame:=fun i h h' ⟨j,e,st⟩ k=>⟨j,e,D.frame j h h' st k⟩
 item:=fun i s Q E hi ⟨j,e,st⟩ hQ=>by
  subst e
  exact D.item j s Q E (by omega) st fun x h' tk p st' sb=>hQ x h' tk ⟨j,rfl,p⟩ ⟨j+1,rfl,st'⟩ sb
 done:=fun s Q E ⟨j,e,st⟩ hE=>by
  have:n=j:=by omega
  subst this
  exact D.done s Q E st hE
section
variable {prog:Qk}{w:Qv}{A:QF}{E:Qb->Qe->Prop}{s:Qe}
theorem ZaS (x:Str)(t t1:Tok) :
 Meets (Jy.«enumerate.__new__» ⟨[.type "enumerate",.str x t],[("start",.int 1 t1)]⟩) (fun _ R s =>
  R (.ok (.ret (.ref (s.heap.push { cls:=.type (GX x),data:=.fields #[.str x t,.int 0 0] }).objs.size)))
   {s with heap:=(s.heap.push { cls:=.type (GX x),data:=.fields #[.str x t,.int 0 0] }).push { cls:=.type "enumerate",data:=.fields #[.none,.bool false,.ref s.heap.objs.size,Gf 1,.none,.none] } }) :=
 .of_wp fun prog w A R s h=>by
  obtain ⟨hp,g,d,tk,os⟩:=s
  have sub1:=sub_enumerate
  wp_walk
  refine wpAny_stack_any fun st=>Qp ?_
  split
  ·rename_i c _ _ _ _ _
   cases (c == Ou "enumerate")<;>(wp_walk using OZ;exact ⟨_,rfl,h⟩)
  ·wp_walk using OZ
   exact ⟨_,rfl,h⟩
end
section
variable {prog:Qk}{w:Qv}{A:QF}{E:Qb->Qe->Prop}{s:Qe}
theorem Zcu {T newId:String}{self a:Qb}{kw:List (Str×Qb)}(hl:QY (.type T) "__init__"=pure (some (.builtin "object.__init__")))
 (hm:Bind.madeBy (.type T)=pure (some newId)) (hne:(some newId != some "object.__new__")=true) :
 Meets (Jy.«object.__init__» ⟨[self,a],kw⟩) (fun _ R s=>s.TypeIs self T/\R (.ok (.ret .none)) s):=by
 refine Meets.of_wp fun prog w A R s hs=>?_
 obtain ⟨hT,hq⟩:=hs
 repeat (any_goals first | assumption | wp_step)
 exact ⟨_,rfl,hq⟩
theorem ZdD {T newId initId:String}{Bn Bi:Jy}{args:List Qb}{kw:List (Str×Qb)}{S:PySem.Spec}{Q Q₁:Qb->Qe->Prop}(ft:TypeCalled T newId initId)
 (hct:checkTypeCall T ⟨args,kw⟩=pure ()) (hcn:Gx newId ⟨.type T::args,kw⟩=pure ())
 (entryN:entryFor table newId=some Bn) (entryI:entryFor table initId=some Bi) (g:Meets (Bn ⟨.type T::args,kw⟩) S) (h:S A.in1 (wants Q₁ E) s)
 (hnext:∀ obj s₁,Q₁ obj s₁->s₁.TypeIs obj T/\argsOk initId ⟨obj::args,kw⟩/\∃ Si,Meets (Bi ⟨obj::args,kw⟩) Si/\Si A.in1 (wants (fun r s₂=>r=.none/\Q obj s₂) E) s₁) :
 Qq (Qt prog w) A (call (.type T) args kw) Q E s:=by
 obtain ⟨c,tl,hmro⟩:=ft.mro
 have q1:=ft.made
 have q2:=ft.sub
 refine JF (NU (show Qq _ _ (callAny (.type T) _) _ _ _ from Qp ⟨JY _ (by decide +kernel),Tc F.entry_type_call ?_⟩))
 rw [Around.under_plain (weight_type_call_type T args kw) (units_type_call_type T args kw)]
 have q3:=ft.notType
 have q4:=ft.canCreate
 repeat (any_goals first | assumption | wp_step)
 refine GA (GY ft.plain entryN (RF hcn (g prog w A.in1 _ s h))) fun r s₁ hr=>?_
 rcases r with e | fl
 ·exact hr
 ·cases fl with
  | ret obj =>
   obtain ⟨hT,hok,Si,gi,hsi⟩:=hnext _ _ hr
   have q5:=ft.init.lookup
   have q6:=ft.init.bind obj
   repeat (any_goals first | assumption | wp_step)
   refine GA (GY ft.init.plain entryI (ft.init.check _ _ _ _ _ _ _ _ hT hok (gi prog w A.in1 _ s₁ hsi))) fun r₂ s₂ hr₂=>?_
   rcases r₂ with e | fl₂
   ·exact hr₂
   ·cases fl₂ with
    | ret r =>
     obtain ⟨rfl,hq⟩:=hr₂
     repeat (any_goals first | assumption | wp_step)
    | _=>exact hr₂.elim
  | _=>exact hr.elim
theorem VD (a b:Qb):checkTypeCall "enumerate" ⟨[a],[("start",b)]⟩=pure ():=by kernel_rfl
theorem VI (a b:Qb):Gx "enumerate.__new__" ⟨[.type "enumerate",a],[("start",b)]⟩=pure ():=by kernel_rfl
theorem Zbl (o a b:Qb):argsOk "object.__init__" ⟨[o,a],[("start",b)]⟩:=by
 unfold argsOk
 rw [signature?_of (id:="object.__init__") (n:=['_','_','t','i','n','i','_','_']) (o:=['t','c','e','j','b','o']) (by kernel_rfl) F.owner_object]
 kernel_rfl
theorem ZbP {x:Str}{t t1:Tok}{Q:Qb->Qe->Prop}
 (h:∀ h',IsEnum h' (s.heap.objs.size+1) s.heap.objs.size 1 .none->h'.IsStrIter s.heap.objs.size (GX x) x t 0->h'.objs.size=s.heap.objs.size+2 ->
  (∀ b o,s.heap.get? b=some o->h'.get? b=some o)->Q (.ref (s.heap.objs.size+1)) { s with heap:=h' }) :
 Qq (Qt prog w) A (call (.type "enumerate") [.str x t] [("start",.int 1 t1)]) Q E s:=by
 have ft:=F.called_enumerate
 refine ZdD (Q₁:=fun obj s₁=>s₁.TypeIs obj "enumerate"/\Q obj s₁) ft (VD _ _) (VI _ _) F.entry_enumerate_new F.entry_object_init (ZaS x t t1) ?_
  (fun obj s₁ hq=>⟨hq.1,Zbl obj _ _,_,Zcu ft.init.lookup ft.made (by decide),hq.1,rfl,hq.2⟩)
 generalize hO:({ cls:=.type (GX x),data:=.fields #[.str x t,.int 0 0] }:Obj)=O
 have hz:(s.heap.push O).objs.size=s.heap.objs.size+1:=JE ..
 generalize hO2:({ cls:=.type "enumerate",data:=.fields #[.none,.bool false,.ref s.heap.objs.size,Gf 1,.none,.none] }:Obj)=O2
 have he:((s.heap.push O).push O2).get? (s.heap.objs.size+1)=some O2:=by
  have e:=Qs (s.heap.push O) (o:=O2) (by rw [<- hO2];rfl)
  rw [hz] at e;exact e
 have hi:((s.heap.push O).push O2).get? s.heap.objs.size=some O:=Qd _ (Qs _ (by rw [<- hO];rfl))
 have key:Oo { s with heap:=(s.heap.push O).push O2 } (.ref (s.heap.objs.size+1)) "enumerate"/\Q (.ref (s.heap.objs.size+1)) { s with heap:=(s.heap.push O).push O2 }:=by
  refine ⟨⟨O2,he,by rw [<- hO2]⟩,h _ (by rw [<- hO2] at he ⊢;exact he) ⟨O,hi,by rw [<- hO],by rw [<- hO];rfl⟩ (by rw [JE,hz]) fun b o y=>Qd _ (Qd _ y)⟩
 rw [<- hz] at key
 exact key
end
theorem Inv.turned2 {X:Cx}{pins:List (Addr×Obj)}{σ:St}{H:Hp}{s:Qe}{h':Heap}{t':Nat}{fp:List Addr}(I:Inv X pins σ H s)(k:∀ b o,b ∉ fp->s.heap.get? b=some o->h'.get? b=some o)(hf:∀ b∈fp,Wl X pins H b) :
 Inv X pins σ H { s with heap:=h',toks:=t' }:=by
 have nit:∀ b u,H b=some u->b ∉ fp:=fun b u e z=>by rw [(hf b z).1] at e;cases e
 refine I.step (g':=s.gens) (d':=s.drawn) (ch:=fp) (fun b hb=>?_) (fun b o _ _ hc e _=>k b o hc e) (fun b o _ _ hc e _=>⟨o.slots,k b o hc e⟩) (fun _ _ _ _ n=>n)
  (fun b o hc e=>⟨o,k b o hc e⟩) (fun _ _ e=>e) (fun _ _ _ e=>e) (fun b ps e=>⟨#[],by rw [e];simp⟩) (fun m hm=>?_) (fun b u e=>?_) I.bare
 ·obtain ⟨f0,f1,f2,f3,f4,f5⟩:=hf b hb
  exact ⟨f3,f1,f4,f5⟩
 ·obtain ⟨o,es,ep,ho,r⟩:=hm
  exact ⟨o,es,ep,k _ o (fun z=>(hf _ z).2.1 rfl) ho,r⟩
 ·refine (I.hok b u e).stay (fun c v hc q=>k c v ?_ q) (fun _ q=>q) fun _ _ q=>q
  rcases hc with z | z
  ·rw [z];exact nit b u e
  ·exact nit c _ z
theorem ZcI {prog:Qk}{w:Qv}{A:QF}(hh:A.handled=none)(it:Addr)(x:Str)(t:Tok) :
 Draws prog w A it [it] x.cps.size (fun i v=>∃ c u,x.cps[i]?=some c/\v=.str ⟨#[c]⟩ u) (fun i h=>h.IsStrIter it (GX x) x t i):=by
 cases ha:x.cps.all (· < 128)
 ·have e:GX x="str_iterator":=by simp [GX,ha]
  rw [e];exact Draws.strWide hh it x t
 ·have e:GX x="str_ascii_iterator":=by simp [GX,ha]
  rw [e];exact Draws.strAscii hh it x t
def Ite (x:Str):It:=⟨fun i _=>i < x.cps.size,fun i H v H'=>∃ t c,H t=none/\x.cps[i]?=some c/\v=.ref t/\H'=upd H t (.tup [.int ((i:Int)+1),.str ⟨#[c]⟩]),fun i _=>x.cps.size<=i⟩
theorem Zis {P:Qk}{w:Qv}{K:Qa}{elts:List Expr}{x1:Nat}{tp:Pos}(x:Str)(t:Tok)(e it:Addr)(hne:e≠it) :
 VG P w K (.Tuple elts x1 tp) (Ite x) [e,it] e (fun i h=>(∃ old,IsEnum h e it ((i:Int)+1) old)/\h.IsStrIter it (GX x) x t i/\i<=x.cps.size) where
 mem:=by simp
 obj:=fun i h st b hb=>by
  obtain ⟨⟨old,he⟩,⟨o,ho,c,d⟩,_⟩:=st
  rcases mem_cons.mp hb with q | hb
  ·rw [q];exact ⟨_,he,fun v z=>by cases z⟩
  ·rw [mem_singleton.mp hb];exact ⟨o,ho,fun v z=>by rw [d] at z;cases z⟩
 keep:=fun i h h' st k=>by
  obtain ⟨⟨old,he⟩,⟨o,ho,r⟩,hi⟩:=st
  exact ⟨⟨old,k e (by simp) _ he⟩,⟨o,k it (by simp) o ho,r⟩,hi⟩
 item:=by
  intro X hP hw hK hc i pins s σ H E I hf st hg
  subst hP hw hK
  obtain ⟨⟨old,he⟩,hs,hi⟩:=st
  have hlt:i < x.cps.size:=hg
  have D:=ZbG (ZcI (prog:=X.prog) (w:=X.w) (A:=X.A.in1) (I.ok.hd hc) it x t)
  refine Sw (i:=i+1) D (show IsEnum s.heap e it ((i+1:Nat):Int) old from he) ⟨i,rfl,hs⟩ (by omega) hne (by simpa using hne) fun v h' tk hP hOut hst hT hsz hk=>?_
  obtain ⟨j,ej,c,u,hcc,rfl⟩:=hP
  have ej':i=j:=by omega
  subst ej'
  obtain ⟨j,ej,hst⟩:=hst
  have ej':i+1=j:=by omega
  subst ej'
  have hel:e < s.heap.objs.size:=Qj he
  have hil:it < s.heap.objs.size:=by obtain ⟨o,ho,_⟩:=hs;exact Qj ho
  refine ⟨_,rfl,TJ hOut fun h2 he2 hs2=>?_⟩
  generalize hO:({ cls:=.type "tuple",data:=.seq #[.int ((i+1:Nat):Int) tk,.str ⟨#[c]⟩ u] }:Obj)=O at hT
  have I1:Inv X pins σ (upd H s.heap.objs.size (.tup [.int ((i:Int)+1),.str ⟨#[c]⟩])) { s with heap:=s.heap.push O,toks:=tk+1 }:=by
   refine I.laid (t':=tk+1) (fun b o y=>Qd _ y) (Qh _) (show ObjOk X.prog X.w _ _ _ (.tup _) from ⟨by show 2<=Qi;decide,[.int ((i+1:Nat):Int) tk,.str ⟨#[c]⟩ u],.cons ⟨tk,rfl⟩ (.cons ⟨u,rfl⟩ .nil),?_⟩)
   rw [<- hO];exact Tp _ _
  have hfree:=I.hok.fresh (Qh s.heap.objs.size)
  have hf2:∀ b∈[e,it],Wl X pins (upd H s.heap.objs.size (.tup [.int ((i:Int)+1),.str ⟨#[c]⟩])) b:=fun b hb=>by
   obtain ⟨f0,f1⟩:=hf b hb
   have hb':b≠s.heap.objs.size:=by
    rcases mem_cons.mp hb with q | hb
    ·rw [q];exact Qw hel
    ·rw [mem_singleton.mp hb];exact Qw hil
   exact ⟨by rw [Zg hb'];exact f0,f1⟩
  have I2:Inv X pins σ (upd H s.heap.objs.size (.tup [.int ((i:Int)+1),.str ⟨#[c]⟩])) { s with heap:=h2,toks:=tk+1 }:=by
   refine I1.turned2 (t':=tk+1) (h':=h2) (fun b o hb y=>?_) hf2
   have hbe:b≠e:=fun q=>hb (by simp [q])
   have hbi:b≠it:=fun q=>hb (by simp [q])
   rw [hs2.2 b hbe]
   rcases RG y with ⟨q1,q2⟩ | y
   ·rw [q1,q2];exact hT
   ·exact hk b o hbe hbi y
  refine ⟨.ref s.heap.objs.size,_,I2,rfl,⟨s.heap.objs.size,c,hfree,hcc,rfl,rfl⟩,⟨⟨_,he2⟩,?_,hlt⟩,fun b hb=>(hf2 b hb).1⟩
  obtain ⟨o,ho,r⟩:=hst
  exact ⟨o,by rw [hs2.2 it hne.symm];exact ho,r⟩
 done:=by
  intro X hP hw hK hc i pins s σ H E I hf st hg
  subst hP hw hK
  obtain ⟨⟨old,he⟩,hs,hi⟩:=st
  have hle:x.cps.size<=i:=hg
  have D:=ZbG (ZcI (prog:=X.prog) (w:=X.w) (A:=X.A.in1) (I.ok.hd hc) it x t)
  have ei:i=x.cps.size:=by omega
  rw [ei] at hs
  obtain ⟨f0,f1,f2,f3,f4,f5⟩:=hf it (by simp)
  exact wpAny_pyNext_enum_endD D he ⟨_,rfl,hs⟩ fun h' eb=>⟨rfl,I.turned (t':=s.toks) (fun b o hb y=>eb b o hb y) f0 f1 f3 f4 f5⟩
 self:=fun _ _ _ _ _ st h=>by
  obtain ⟨⟨old,he⟩,_⟩:=st
  exact Pk he h
theorem ZaG {M:Oh}{A:QF}{E:Qb->Qe->Prop}{s:Qe}{pos:Pos}{T:String}{args:List (Bool×Sem Qb)}{kws:List (Option Str×Sem Qb)}{Q:Qb->Qe->Prop}
 (h1:args.any (·.1)=false) (h2:kws.any (·.1.isNone)=false)
 (h:Qq M A (evalArgs (.type T) true args kws) (fun a s₁=>Qq M A (call (.type T) a.pos a.kw) Q E s₁) E s):Qq M A (Sq pos (.type T) [] args kws) Q E s:=by
 unfold Sq
 refine Qg (Ge (Zs h fun a s₁ q=>Qg (Gz ?_)))
 simp only [h1,h2,Bool.or_false]
 refine Qg (Qp (Qg (Zs q fun r s₂ hr=>?_)))
 exact Qg (Ge (wpAny_point (Qp hr)))
def Znr (tl:TE):TI:=fun σ H R=>tl σ H fun v H1=>∃ x,[v]=[V.str x]/\R (Ite x) H1
section
variable {X:Cx}
theorem Zjz {l:Expr}{tl:TE}{elts:List Expr}{x1 j:Nat}{tp p pos kp kpos:Pos}(hg:Gl X "enumerate")(hm:X.mg "enumerate"=none)(hl:PE X l tl)
 (he:QE [l] X.env=[(false,eval l X.env)]:=by rfl):PI X (.Tuple elts x1 tp) (.Call (.Name "enumerate" p) [l] [⟨some "start",.Constant (.int 1) j kp,kpos⟩] pos) (Znr tl):=by
 intro pins s σ H R I h
 have ha:PA X [l] (XZ tl WP):=Yv hl Za he
 have hk:PK X [⟨some "start",.Constant (.int 1) j kp,kpos⟩] (XZ (tC (.int 1)) WP):=ZlS Zi ZnJ
 refine QV (Ur I hg hm boot_enumerate (ZaG (by rw [he];rfl) rfl (evalArgs_kw2 rfl ?_ he)))
 refine Zs (ha pos pins s σ H (fun vs H1=>∃ x,vs=[V.str x]/\R (Ite x) H1) I h) fun us s1 ⟨vs,H1,I1,r1,x,e,q⟩=>?_
 subst e
 obtain ⟨u,rfl,t,rfl⟩:=Yt r1
 refine Zs (hk pos pins s1 σ H1 (fun vs H2=>vs=[V.int 1]/\H2=H1) I1 ⟨rfl,rfl⟩) fun ws s2 ⟨zs,H2,I2,r2,e1,e2⟩=>?_
 subst e1 e2
 obtain ⟨u',rfl,t',rfl⟩:=Yt r2
 refine ZbP fun h' hE hit hsz hkk=>Pk hE ?_
 refine ⟨s2.heap.objs.size+1,[s2.heap.objs.size+1,s2.heap.objs.size],_,_,H2,rfl,I2.kept (t':=s2.toks) hkk,Zis x t _ _ (Nq _),⟨⟨_,hE⟩,hit,QC _⟩,fun b hb=>?_,q⟩
 rcases mem_cons.mp hb with z | hb
 ·rw [z];exact I2.fpOk (Gu _) (I2.hok.fresh (Gu _))
 ·rw [mem_singleton.mp hb];exact I2.fpOk (Qh _) (I2.hok.fresh (Qh _))
end
theorem ZiT {x:Str}{g:TG}{tb:TS}{D:YA}{σ:St}{H:Hp}(Pv:Nat->St->Hp->Prop)(h0:Pv 0 σ H)
 (hs:∀ i c t σ H,x.cps[i]?=some c->H t=none->Pv i σ H->g (.ref t) σ (upd H t (.tup [.int ((i:Int)+1),.str ⟨#[c]⟩])) fun σ2 H2=>tb { D with nx:=Pv (i+1),ct:=Pv (i+1),bk:=D.nx } σ2 H2) (hd:∀ σ H,Pv x.cps.size σ H->D.nx σ H) :
 ∃ W:Nat->Nat->St->Hp->Prop,(∃ m,W 0 m σ H)/\∀ i m σ H,W i m σ H ->
  ((Ite x).stop i H/\D.nx σ H)\/((Ite x).go i H/\∃ N:St->Hp->Prop,(∀ σ' H',N σ' H'->∃ m',m' < m/\W (i+1) m' σ' H')/\∀ y H',(Ite x).yld i H y H'->g y σ H' fun σ2 H2=>tb { D with nx:=N,ct:=N,bk:=D.nx } σ2 H2):=by
 refine ⟨fun i m σ H=>m=x.cps.size - i/\i<=x.cps.size/\Pv i σ H,⟨x.cps.size,by simp,QC _,h0⟩,?_⟩
 rintro i m σ H ⟨rfl,hi,p⟩
 by_cases hlt:i < x.cps.size
 ·refine .inr ⟨hlt,Pv (i+1),fun σ' H' p'=>⟨x.cps.size - (i+1),by omega,rfl,hlt,p'⟩,fun y H' z=>?_⟩
  obtain ⟨t,c,e1,e2,e3,e4⟩:=z
  subst e3 e4
  exact hs i c t σ _ e2 e1 p
 ·have e:i=x.cps.size:=by omega
  subst e
  exact .inl ⟨Qh _,hd σ H p⟩
end L2
namespace L2
open PySem PySem.W PySem.Spec PyProof.Rows
def ZaM (ks:List Str)(vs out:List Qb):Prop:=∃ ps:List (Str×Qb),ps.Perm (ks.zip vs)/\out=ps.map (·.2)/\ps.Pairwise fun p q=>¬ (q.1.cps.toList < p.1.cps.toList)
theorem ZdT:∀{keys:List Qb}{ks:List Str}(_:PL keys ks)(vs:List Qb),(keys.zip vs).map (fun p=>(strOf p.1,p.2))=ks.zip vs
 | _,_,.nil,vs=>rfl
 | _,_,.cons x t h,[]=>rfl
 | _,_,.cons x t h,v::vs=>by
  rw [List.zip_cons_cons,map_cons,ZdT h vs];rfl
theorem Zjp {keys:Array Qb}{vs:List Qb}{ks:List Str}(hk:PL keys.toList ks){xs:Array Keyed}(hp:xs.Perm (keys.zip vs.toArray))(hs:SortedToK strKind xs xs.size):ZaM ks vs (xs.map (·.2)).toList:=by
 have hl:xs.toList.Perm (keys.toList.zip vs):=by
  have:=Array.perm_iff_toList_perm.mp hp
  rwa [ksk_zip] at this
 refine ⟨xs.toList.map fun p=>(strOf p.1,p.2),?_,?_,?_⟩
 ·have:=hl.map fun p=>(strOf p.1,p.2)
  rwa [ZdT hk] at this
 ·rw [Array.toList_map,map_map];rfl
 ·rw [Pm,List.pairwise_iff_getElem]
  intro i j hi hj hij
  have hi':i < xs.size:=by simpa using hi
  have hj':j < xs.size:=by simpa using hj
  have str_at:∀ m (hm:m < xs.size),KK strKind xs m=(strOf xs[m].1).cps.toList:=fun m hm=>by
   have hmem:xs[m]∈keys.toList.zip vs:=hl.mem_iff.mp (by simp)
   have h1:=(of_mem_zip (show (xs[m].1,xs[m].2)∈_ from hmem)).1
   obtain ⟨x,t,e⟩:=hk.all _ h1
   rw [KK_str hm (x:=x) (t:=t) (q:=xs[m].2) (by rw [<- e])]
   rw [e];rfl
  have h:=hs i j (GH hij) hj'
  rw [str_at i hi',str_at j hj'] at h
  simpa [KeyOrd.kle] using h
theorem Zhg {keys:Array Qb}{vs:List Qb}{ks:List Str}(hk:PL keys.toList ks):KeysOf strKind (keys.zip vs.toArray):=by
 intro p hp
 rw [ksk_zip] at hp
 obtain ⟨x,t,e⟩:=hk.all _ (of_mem_zip (show (p.1,p.2)∈_ from hp)).1
 exact ⟨x.cps.toList,by rw [e]⟩
theorem ZhX {keys:Array Qb}{ks:List Str}(hk:PL keys.toList ks)(h2:2<=keys.size):keyKind' keys=pure oneType':=by
 obtain ⟨l⟩:=keys
 match l,hk,h2 with
 | [],_,h2=>simp at h2
 | [_],_,h2=>simp at h2
 | v₁::v₂::r,hk,_=>exact keyKind_strs hk
theorem ZcT {x:Str}{t:Tok}:∀{vs:List Qb}{ss:List Str},PL vs ss->PL (vs++[.str x t]) (ss++[x])
 | _,_,.nil=>.cons x t .nil
 | _,_,.cons y u h=>.cons y u (ZcT h)
section
variable {prog:Qk}{w:Qv}{A:QF}{E:Qb->Qe->Prop}{s:Qe}{a kS:Addr}{vs:List Qb}{ks:List Str}{keys:Array Qb}{e e1:Nat}{P:RV->Qe->Prop}
theorem ZbC {st:SortSt}(nk:s.heap.get? kS=some (Gp "list" keys e))(na:s.heap.get? a=some (Gp "list" #[] e1))(hka:kS≠a)(hk:PL keys.toList ks)(hlen:ks.length=vs.length)(h64:vs.length < 64)
 (hp:(Op st).Perm (keys.zip vs.toArray)) (hs:SortedToK strKind (Op st) (Op st).size) (hfl:failedOf st=none)
 (h:∀ h' tk out c,(∀ b o,b≠a->b≠kS->s.heap.get? b=some o->h'.get? b=some o)->h'.get? a=some (Gp "list" out c)->ZaM ks vs out.toList->P (.done (.ret .none)) { s with heap:=h',toks:=tk }) :
 Qq (Qt prog w) A (ksk_tail a false e1 (.ref kS) st) P E s:=by
 have hsz:keys.size=vs.length:=by have:=hk.length;rw [GG] at this;omega
 have hsz2:(Op st).size=vs.length:=by rw [hp.size_eq,Array.size_zip,hsz,size_toArray,Na]
 have s1:=JP s.heap kS (QZ fun _=>(#[]:Array Qb))
 have na1:(s.heap.update kS (QZ fun _=>(#[]:Array Qb))).get? a=some (Gp "list" #[] e1):=(s1.2 a hka.symm).trans na
 have s2:=JP (s.heap.update kS (QZ fun _=>(#[]:Array Qb))) a (QZ fun _=>(Op st).map (·.2))
 obtain ⟨c2,hc2⟩:∃ c2,((s.heap.update kS (QZ fun _=>(#[]:Array Qb))).update a (QZ fun _=>(Op st).map (·.2))).get? a=some (Gp "list" ((Op st).map (·.2)) c2):=⟨_,Rh na1 fun _=>(Op st).map (·.2)⟩
 unfold ksk_tail
 try dsimp only
 refine Qg (Sl nk rfl ?_ (by rw [hsz,QU];omega) (QC _))
 refine Qg (wpAny_letGo (Qg (seqEpoch_at na1 rfl ?_)))
 refine Qg (Sl na1 rfl ?_ (QC _) (Qn (JK (show ((Op st).map (·.2)).size=vs.length by rw [Array.size_map];exact hsz2)) (by rw [QU];omega)))
 rw [hfl]
 simp only [bne_self_eq_false,GP,if_false]
 exact Qp (h _ _ _ c2 (fun b o hb1 hb2 y=>(s2.2 b hb1).trans ((s1.2 b hb2).trans y)) hc2 (Zjp hk hp hs))
theorem Zhk (nk:s.heap.get? kS=some (Gp "list" keys e))(na:s.heap.get? a=some (Gp "list" #[] e1))(hka:kS≠a)(hk:PL keys.toList ks)(hlen:ks.length=vs.length)(h64:vs.length < 64)
 (h:∀ h' tk out c,(∀ b o,b≠a->b≠kS->s.heap.get? b=some o->h'.get? b=some o)->h'.get? a=some (Gp "list" out c)->ZaM ks vs out.toList->P (.done (.ret .none)) { s with heap:=h',toks:=tk }) :
 Qq (Qt prog w) A (ksk_end a false vs.toArray e1 (.ref kS) keys) P E s:=by
 have hsz:keys.size=vs.length:=by have:=hk.length;rw [GG] at this;omega
 have hzs:(keys.zip vs.toArray).size=vs.length:=by rw [Array.size_zip,hsz,size_toArray,Na]
 unfold ksk_end
 simp only [GP,if_false]
 by_cases h2:vs.toArray.size < 2
 ·rw [if_pos h2,if_pos h2]
  refine Qg (Qp ?_)
  rw [StateT.run_pure]
  refine Qg (Qp ?_)
  try dsimp only
  refine ZbC (st:=SortSt.mk' general' (keys.zip vs.toArray) #[] 7 none) nk na hka hk hlen h64 (NV _) ?_ rfl h
  intro i j hij hj
  have hj2:j < (keys.zip vs.toArray).size:=hj
  rw [hzs] at hj2
  rw [size_toArray] at h2
  have:i=j:=by omega
  subst this
  exact KeyOrd.kle_refl _
 ·rw [if_neg h2,if_neg h2]
  rw [size_toArray] at h2
  rw [ZhX hk (by rw [hsz];omega)]
  refine Qg (Qp (Qg (QS (wpS_sortRunsK (κ:=strKind) strKind_oneLt (a₀:=keys.zip vs.toArray) (st:=SortSt.mk' oneType' (keys.zip vs.toArray) #[] 7 none)
   (Q:=fun _ st'=>(Op st').Perm (keys.zip vs.toArray)/\failedOf st'=none/\SortedToK strKind (Op st') (keys.zip vs.toArray).size)
   (Zhg hk) ⟨NV _,rfl,rfl,rfl⟩ (by rw [hzs];omega) (by rw [hzs];exact h64) fun st' a1 a2 a3=>⟨a1,a2,a3⟩) ?_ fun _ _ y=>y)))
  rintro ⟨⟨⟩,st'⟩ s' ⟨rfl,hp,hf,hs⟩
  try dsimp only
  exact ZbC nk na hka hk hlen h64 hp (by rw [hp.size_eq];exact hs) hf h
def Zcn (prog:Qk)(w:Qv)(A:QF)(s:Qe)(a:Addr)(f:Qb)(vs:List Qb)(ks:List Str):Prop :=
 ∀ (i:Nat) (v:Qb) (k:Str),vs[i]?=some v->ks[i]?=some k->∀ (h:Heap) (tk:Nat),(∀ b o,b≠a->s.heap.get? b=some o->h.get? b=some o)->s.heap.objs.size<=h.objs.size->∀ Q':Qb->Qe->Prop,
  (∀ h' tk' t,(∀ b o,h.get? b=some o->h'.get? b=some o)->h.objs.size<=h'.objs.size->Q' (.str k t) { s with heap:=h',toks:=tk' })->Qq (Qt prog w) A (call f [v]) Q' (fun _ _=>False) { s with heap:=h,toks:=tk }
theorem ZfU {f:Qb}{s0:Qe}(hs0:∃ tk,s={ s0 with heap:=s.heap,toks:=tk })(k0:∀ b o,b≠a->s0.heap.get? b=some o->s.heap.get? b=some o)(z0:s0.heap.objs.size<=s.heap.objs.size)(hkn:s0.heap.objs.size<=kS)
 (nk:s.heap.get? kS=some (Gp "list" #[] 0)) (na:s.heap.get? a=some (Gp "list" #[] e1)) (hka:kS≠a) (hlen:ks.length=vs.length) (h64:vs.length < 64) (turn:Zcn prog w A s0 a f vs ks)
 (h:∀ h' tk out c,(∀ b o,b≠a->s0.heap.get? b=some o->h'.get? b=some o)->h'.get? a=some (Gp "list" out c)->ZaM ks vs out.toList->P (.done (.ret .none)) { s0 with heap:=h',toks:=tk }) :
 Qq (Qt prog w) A (ksk_rest a f false vs.toArray e1 (.ref kS)) P E s:=by
 obtain ⟨tk0,hs0⟩:=hs0
 unfold ksk_rest
 refine Qg (Ox ?_)
 first
  | rw [List.forIn_toArray]
  | (rw [<- Array.forIn_toList];simp only [List.toList_toArray])
 refine Qg (ksk_fold (fun i s'=>∃ h' tk kA c,s'={ s0 with heap:=h',toks:=tk }/\(∀ b o,b≠a->s0.heap.get? b=some o->h'.get? b=some o)/\s0.heap.objs.size<=h'.objs.size/\h'.get? kS=some (Gp "list" kA c)/\h'.get? a=some (Gp "list" #[] e1)/\PL kA.toList (ks.take i)) vs 0 s
  ⟨s.heap,tk0,#[],0,hs0,k0,z0,nk,na,by simpa using StrsAre.nil⟩ ?step ?done)
 case step =>
  rintro j x s' hx ⟨h',tk,kA,c,rfl,k1,z1,nk1,na1,hk⟩
  simp only [Nat.zero_add] at hk ⊢
  have hj:j < vs.length:=(Qf.mp hx).1
  obtain ⟨k,hkj⟩:∃ k,ks[j]?=some k:=⟨_,getElem?_eq_getElem (by omega)⟩
  have hz:kA.size<=vs.length:=by
   have h1:=hk.length
   rw [GG,length_take] at h1
   omega
  refine Qg (wpAny_attempt (QS (turn j x k hx hkj h' tk k1 z1 (fun v s''=>∃ g tk2 t2,v=.str k t2/\s''={ s0 with heap:=g,toks:=tk2 }/\(∀ b o,h'.get? b=some o->g.get? b=some o)/\h'.objs.size<=g.objs.size) (fun g tk2 t2 q z=>⟨g,tk2,t2,rfl,rfl,q,z⟩)) (fun v s'' he=>?_) fun _ _ hF=>hF.elim))
  obtain ⟨g,tk2,t2,rfl,rfl,k2,z2⟩:=he
  try dsimp only
  have nk2:=k2 _ _ nk1
  have na2:=k2 _ _ na1
  have s1:=JP g kS (QZ (·.push (.str k t2)))
  obtain ⟨c2,hc2⟩:∃ c2,(g.update kS (QZ (·.push (.str k t2)))).get? kS=some (Gp "list" (kA.push (.str k t2)) c2):=⟨_,Rh nk2 (·.push (.str k t2))⟩
  have ek:ks.take (j+1)=ks.take j++[k]:=by rw [take_add_one,hkj];simp
  have ea:(kA.push (Tn k t2)).toList=kA.toList++[Tn k t2]:=by simp
  refine Qg (Sl nk2 rfl ?_ (by rw [QU];omega) (Qn (JK (Array.size_push ..)) (by rw [QU];omega)))
  refine Qp ⟨rfl,_,_,kA.push (.str k t2),c2,rfl,fun b o hb y=>?_,Qn (Qn z1 z2) (JK (Sx ..).symm),hc2,(s1.2 a hka.symm).trans na2,by rw [ea,ek];exact ZcT hk⟩
  exact (s1.2 b (fun z=>by rw [z] at y;exact absurd (Qj y) (Go.mpr hkn))).trans (k2 _ _ (k1 b o hb y))
 case done =>
  rintro s' ⟨h',tk,kA,c,rfl,k1,z1,nk1,na1,hk⟩
  have hk':PL kA.toList ks:=by
   have e3:ks.take (0+vs.length)=ks:=Po (by omega)
   rw [e3] at hk
   exact hk
  try dsimp only
  refine Qg (listItems_at nk1 rfl ?_)
  refine Zhk nk1 na1 hka hk' hlen h64 fun h3 tk3 out c3 k3 a3 o3=>h h3 tk3 out c3 (fun b o hb y=>k3 b o hb (fun z=>?_) (k1 b o hb y)) a3 o3
  rw [z] at y
  exact absurd (Qj y) (Go.mpr hkn)
theorem ZfS {f:Qb}{n:Nat}(ho:s.heap.get? a=some (Gp "list" vs.toArray n))(hlen:ks.length=vs.length)(h64:vs.length < 64)(turn:Zcn prog w A s a f vs ks)
 (h:∀ h' tk out c,(∀ b o,b≠a->s.heap.get? b=some o->h'.get? b=some o)->h'.get? a=some (Gp "list" out c)->ZaM ks vs out.toList->P (.done (.ret .none)) { s with heap:=h',toks:=tk }) :
 Qq (Qt prog w) A (ksk_tree a f false) P E s:=by
 have ha:a < s.heap.objs.size:=Qj ho
 have s1:=JP s.heap a (QZ fun _=>(#[]:Array Qb))
 obtain ⟨e1,ho1⟩:∃ e1,(s.heap.update a (QZ fun _=>(#[]:Array Qb))).get? a=some (Gp "list" #[] e1):=⟨_,Rh ho fun _=>#[]⟩
 have hkS:((s.heap.update a (QZ fun _=>(#[]:Array Qb))).push (Gp "tuple" vs.toArray 0)).objs.size=s.heap.objs.size+1:=by rw [OF,Sx]
 unfold ksk_tree
 refine Qg (listItems_at ho rfl ?_)
 refine Qg (Sl ho rfl ?_ (by rw [size_toArray,QU];omega) (QC _))
 refine Qg (seqEpoch_at ho1 rfl (Qg (wpAny_newTuple ?_ (by show vs.length<=_;rw [QU];omega))))
 refine Qg (wpAny_newList ?_ (QC _))
 refine Ge ?_
 refine ZfU (s0:=s) (s:={ s with heap:=((s.heap.update a (QZ fun _=>(#[]:Array Qb))).push (Gp "tuple" vs.toArray 0)).push (Gp "list" #[] 0) }) (kS:=((s.heap.update a (QZ fun _=>(#[]:Array Qb))).push (Gp "tuple" vs.toArray 0)).objs.size)
  ⟨s.toks,rfl⟩ (fun b o hb y=>Qd _ (Qd _ ((s1.2 b hb).trans y))) ?_ (by rw [hkS];exact Gu _) (Qs _ rfl) (Qd _ (Qd _ ho1)) (by rw [hkS];exact Jl (Jz ha)) hlen h64 turn h
 show s.heap.objs.size<=(((s.heap.update a _).push _).push _).objs.size
 rw [OF,hkS];omega
theorem ZkR {f:Qb}{l:Addr}{Q:Qb->Qe->Prop}(hl:s.heap.IsList l vs.toArray)(hlen:ks.length=vs.length)(h64:vs.length < 64)(ht:∀ x,Jy.«list.sort» ⟨[.ref x],[(QA "key",f)]⟩=ksk_tree x f false)
 (turn:∀ (h1:Heap) (tk1:Nat),(∀ b o,s.heap.get? b=some o->h1.get? b=some o)->s.heap.objs.size<=h1.objs.size->Zcn prog w A.in1.in1 { s with heap:=h1,toks:=tk1 } (s.heap.objs.size+1) f vs ks)
 (h:∀ h' tk out c,(∀ b o,s.heap.get? b=some o->h'.get? b=some o)->h'.get? (s.heap.objs.size+1)=some (Gp "list" out c)->ZaM ks vs out.toList->Q (.ref (s.heap.objs.size+1)) { s with heap:=h',toks:=tk }) :
 Qq (Qt prog w) A (call (.builtin "sorted") [.ref l] [(QA "key",f)]) Q E s:=by
 refine call_function_entry_kw kind_sorted plain_sorted entry_sorted (ksk_s1 _ _) ?_
 unfold Jy.«sorted»
 refine Qg (m:=checkCount "sorted" 1 1 _) (Qp ?_)
 refine Qg (collect_list hl ?_ (by rw [QU];omega))
 refine Qg (wpAny_newList ?_ (by rw [QU];omega))
 generalize hg:(s.heap.push (Gp "list" #[] 0)).update s.heap.objs.size (QZ (·++vs.toArray))=g
 have hsz:g.objs.size=s.heap.objs.size+1:=by rw [<- hg,Sx,OF]
 have kg:∀ b o,s.heap.get? b=some o->(g.push (Gp "list" vs.toArray 0)).get? b=some o:=fun b o q=>by
  have hlt:b < s.heap.objs.size:=Qj q
  rw [Nb _ _ _ (by rw [hsz];exact Qw (Jz hlt)),<- hg,Th _ _ _ _ (Qw hlt),Nb _ _ _ (Qw hlt)]
  exact q
 have hoL:(g.push (Gp "list" vs.toArray 0)).get? (s.heap.objs.size+1)=some (Gp "list" vs.toArray 0):=by rw [<- hsz];exact Qs _ rfl
 show Qq _ _ _ _ _ { s with heap:=g.push (Gp "list" vs.toArray 0) }
 rw [hsz]
 refine Qg (Ge (wpAny_call_entry_kw slot_list_sort ⟨_,hoL,rfl⟩ entry_list_sort ?body (ksk_l1 _ _)))
 show Qq (Qt prog w) A.in1.in1 (Jy.«list.sort» ⟨[.ref (s.heap.objs.size+1)],[(QA "key",f)]⟩) _ _ _
 rw [ht]
 have hz2:s.heap.objs.size<=(g.push (Gp "list" vs.toArray 0)).objs.size:=by rw [OF,hsz];omega
 refine ZfS (s:={ s with heap:=g.push (Gp "list" vs.toArray 0) }) hoL hlen h64 (turn (g.push (Gp "list" vs.toArray 0)) s.toks kg hz2) fun h' tk out c k3 a3 o3=>⟨_,rfl,?_⟩
 exact Qp ⟨_,rfl,h h' tk out c (fun b o y=>k3 b o (Qw (Jz (Qj y))) (kg b o y)) a3 o3⟩
end
def WE (base:Heap)(mg:Str->Option Qb):Prop:=∃ bm ob,mg "__builtins__"=some (.ref bm)/\bm≠Tr/\base.get? bm=some ob/\ob.cls=.type "module"/\ob.dict=some Tr/\ob.data=.plain
def Zgj (ts:List Addr)(H:Hp):Prop:=∀ b,H b=none\/(∃ o xs,H b=some (.frz o (.lst xs)))\/(H b=some (.tbl #[])/\b∈ts)
theorem Zib {P:Qk}{w:Qv}{K:Qa}{mg mb:Str->Option Qb}{CX:Ux}{k:Nat}{fa a:Addr}{fd:Qm}{x:Str}{sp:Sp}{s₁:Qe}{vs:List Qb}{ns:List Int}{ts:List Addr}
   (KX:K.In s₁.heap) (hns:s₁.heap.Ns Ql mg) (hb:s₁.heap.Ns Tr mb) (hbb:∀ x:Str,x≠"__name__"->mb x=Pc x) (hlim:s₁.heap.NoLimit) (hg:s₁.gens=#[]) (hbm:WE s₁.heap mg)
   (ha:s₁.heap.get? a=some { cls:=.type "list",data:=.seq vs.toArray }) (hi:NZ vs ns) (hl:ns.length<=Qi) (hr:Room k RS)
   (hts:∀ b∈ts,s₁.heap.get? b=some (Nr #[])/\K.lookup b=none/\∃ c,CodeHd s₁.heap c b)
   (F:∀ base:Heap,K.In base->base.Ns Ql mg->WE base mg->FnOk P w K mg base CX k fa fd [x] sp) (hbind:∀ (s:Qe) (u:Qb),RO s fd ⟨[u],[]⟩ [(x,u)])
   (hsp:∀ H:Hp,Zgj ts H->SqL K H a (ns.map V.int)->(∀ b∈ts,H b=some (.tbl #[]))->sp [.ref a] H (fun v _=>v=.bl true) fun _ _ _=>False)
   (hCX:∀ H e s',CX [] H s₁ (fun _ _ _=>False) e s'->False) :
   JU (Qt P w) RS (.call (.ref fa) ⟨[.ref a],[]⟩) (fun r s'=>r=.ok (.ret (.bool true))/\OldK s₁.heap s'.heap/\s'.os=s₁.os/\Tj s'.gens) s₁:=by
 have rv:=ZcR hi
 have lenV:=hi.length
 have nta:a ∉ ts:=fun z=>by
   have e:=(hts a z).1
   rw [ha] at e;cases e
 have core : ∀ H:Hp,Zgj ts H->SqL K H a (ns.map V.int)->HOk P w H s₁.heap->(∀ b∈ts,H b=some (.tbl #[]))->(∀ b,H b≠none->b=a\/b∈ts)->(∀ b,H b≠none->K.lookup b=none) ->
     JU (Qt P w) RS (.call (.ref fa) ⟨[.ref a],[]⟩) (fun r s'=>r=.ok (.ret (.bool true))/\OldK s₁.heap s'.heap/\s'.os=s₁.os/\Tj s'.gens) s₁:=by
   intro H hO hS hok hT hA hK
   have base_of:∀ {b:Addr} {o:Obj},s₁.heap.get? b=some o->H b=none->(UM s₁.heap H).get? b=some o:=fun y n=>ZiL y n
   have free:∀ {b:Addr} {o:Obj},s₁.heap.get? b=some o->(∀ its n,o.data≠.seq its n)->(∀ fs,o.data≠.fields fs)->H b=none:=fun {b o} y d1 d2=>by
     cases q:H b with
     | none=>rfl
     | some u =>
       rcases hA b (by rw [q];simp) with z | z
       · subst z
         rw [ha] at y;cases y
         exact absurd rfl (d1 _ _)
       · rw [(hts b z).1] at y;cases y
         exact absurd rfl (d2 _)
   have nsK:∀ {b:Addr} {m:Str->Option Qb},s₁.heap.Ns b m->(UM s₁.heap H).Ns b m:=fun {b m} ⟨o,es,ep,y,d,r⟩=>⟨o,es,ep,base_of y (free y (fun its n z=>by rw [d] at z;cases z) fun fs z=>by rw [d] at z;cases z),d,r⟩
   have hKb:K.In (UM s₁.heap H):=fun b o y=>base_of (KX b o y) (by
     cases q:H b with
     | none=>rfl
     | some u=>rw [hK b (by rw [q];simp)] at y;cases y)
   have hBm:WE (UM s₁.heap H) mg:=by
     obtain ⟨bm,ob,h1,h2,h3,h4,h5,h6⟩:=hbm
     exact ⟨bm,ob,h1,h2,base_of h3 (free h3 (fun its n z=>by rw [h6] at z;cases z) fun fs z=>by rw [h6] at z;cases z),h4,h5,h6⟩
   have hM:Mod K mg (UM s₁.heap H):=⟨hKb,nsK hns,⟨mb,nsK hb,hbb⟩,let ⟨mc,h1,h2⟩:=hlim;⟨mc,nsK h1,h2⟩⟩
   have e0:Env0 P w K mg (UM s₁.heap H) RS [] s₁ H:=⟨rfl,hM,fun b o e=>Zlj e,JK (ZhJ _ _),trivial,fun b hb=>absurd (show b∈([]:List Addr) from hb) (by simp),hok,.of_eq hg⟩
   refine GA ((F _ hKb (nsK hns) hBm).run RS [] s₁ H ⟨[.ref a],[]⟩ [.ref a] [.ref a] _ _ hr e0 (hbind s₁ (.ref a)) (.cons rfl .nil) (hsp H hO hS hT)) fun r s' h=>?_
   cases r with
   | error e=>exact (hCX H e s' h).elim
   | ok fl =>
     cases fl with
     | next=>exact QN h
     | brk=>exact QN h
     | cont=>exact QN h
     | ret u =>
       obtain ⟨v,H',os,bare,un,hok',r',q⟩:=h
       have q':v=.bl true:=q
       subst q'
       obtain rfl:u=GM true:=r'
       have key:∀ b o,s₁.heap.get? b=some o->s'.heap.get? b=some o\/(b∈ts/\∃ more:Array Qb,s'.heap.get? b=some (Nr (#[]++more))):=fun b o y=>by
         cases q:H b with
         | none=>exact .inl (un.keep b o y q (by intro z;exact absurd (show b∈([]:List Addr) from z) (by simp)) (by simp))
         | some u =>
           rcases hO b with z | ⟨ob,xs,z⟩ | ⟨z,zt⟩
           · rw [q] at z;cases z
           · have z2:=un.frzs b ob _ z
             obtain ⟨e1,_⟩:=hok b _ z
             obtain ⟨e2,_⟩:=hok' b _ z2
             rw [y] at e1;cases e1
             exact .inl e2
           · obtain ⟨more,z2⟩:=un.tbls b #[] z
             exact .inr ⟨zt,more,show s'.heap.get? b=some { cls:=.none,data:=.fields (#[]++more) } from hok' b _ z2⟩
       refine ⟨rfl,⟨fun b o y=>?_,fun b o y=>?_⟩,os,bare⟩
       · rcases key b o y with z | ⟨zt,more,z⟩
         · exact .inl z
         · obtain ⟨t1,_,c,t3⟩:=hts b zt
           rw [t1] at y;cases y
           exact .inr (.inl ⟨(t3.tab t1).isCodeTable,rfl,#[],more,rfl,z⟩)
       · rcases key b o y with z | ⟨zt,more,z⟩
         · exact ⟨_,z⟩
         · exact ⟨_,z⟩
 have okT:∀ (H:Hp) (b:Addr),b∈ts->ObjOk P w H s₁.heap b (.tbl #[]):=fun H b hb=>(hts b hb).1
 cases hk:K.lookup a with
 | some o =>
   have e:=KX a o hk
   rw [ha] at e
   cases e
   refine core (fun b=>if b∈ts then some (.tbl #[]) else none) (fun b=>?_) (.inr ⟨_,vs.toArray,_,hk,rfl,rfl,rfl,by rw [size_toArray,lenV];exact hl,by simpa using rv⟩) (fun b u z=>?_) (fun b hb=>if_pos hb) (fun b z=>?_) (fun b z=>?_)
   · by_cases hb:b∈ts
     · exact .inr (.inr ⟨if_pos hb,hb⟩)
     · exact .inl (if_neg hb)
   · by_cases hb:b∈ts
     · have z':=(if_pos hb).symm.trans z
       cases z'
       exact okT _ b hb
     · have z':=(if_neg hb).symm.trans z
       cases z'
   · by_cases hb:b∈ts
     · exact .inr hb
     · exact absurd (if_neg hb) z
   · by_cases hb:b∈ts
     · exact (hts b hb).2.1
     · exact absurd (if_neg hb) z
 | none =>
   refine core (fun b=>if b=a then some (.frz { cls:=.type "list",data:=.seq vs.toArray } (.lst (ns.map V.int))) else if b∈ts then some (.tbl #[]) else none) (fun b=>?_) (.inl (.inr ⟨{ cls:=.type "list",data:=.seq vs.toArray },if_pos rfl⟩)) (fun b u z=>?_)
     (fun b hb=>(if_neg (fun z:b=a=>nta (by rw [<- z];exact hb))).trans (if_pos hb)) (fun b z=>?_) (fun b z=>?_)
   · by_cases h1:b=a
     · exact .inr (.inl ⟨_,_,if_pos h1⟩)
     · by_cases hb:b∈ts
       · exact .inr (.inr ⟨(if_neg h1).trans (if_pos hb),hb⟩)
       · exact .inl ((if_neg h1).trans (if_neg hb))
   · by_cases h1:b=a
     · have z':=(if_pos h1).symm.trans z
       cases z'
       subst h1
       exact ⟨ha,by rw [length_map];exact hl,vs,_,rv,ha⟩
     · have z1:=(if_neg h1).symm.trans z
       by_cases hb:b∈ts
       · have z':=(if_pos hb).symm.trans z1
         cases z'
         exact okT _ b hb
       · have z':=(if_neg hb).symm.trans z1
         cases z'
   · by_cases h1:b=a
     · exact .inl h1
     · by_cases hb:b∈ts
       · exact .inr hb
       · exact absurd ((if_neg h1).trans (if_neg hb)) z
   · by_cases h1:b=a
     · rw [h1];exact hk
     · by_cases hb:b∈ts
       · exact (hts b hb).2.1
       · exact absurd ((if_neg h1).trans (if_neg hb)) z
theorem walk_ofT {l:Ri}{n k:Nat}{q:Qk}{loose:List Str}{XP:(Str->Option Qb)->Heap->Prop}{YP:Qv->Heap->Prop}{d:DefRec}{K:Params->Qa}{CX:Qv->Ux}{sp:Qv->Sp}{x:Str}{ts:List Addr}
 (hn:l.most=some n) (hn2:n<=Qi) (hdf:d.params.defaults=[]) (hr:Room k RS)
 (hY:∀ (w:Qv) (h:Heap),YP w h->(K w.params).In h/\∀ b∈ts,h.get? b=some (Nr #[]))
 (hK:∀ (w:Qv) (b:Addr),b∈ts->(K w.params).lookup b=none/\∃ c,Sy (K w.params) c b=true)
 (F:∀ (w:Qv) (mg:Str->Option Qb) (fa:Addr) (h:Heap),(K w.params).In h->h.Ns Ql mg->mg d.name=some (.ref fa) ->
  ∃ fd:Qm,(∀ (s:Qe) (u:Qb),RO s fd ⟨[u],[]⟩ [(x,u)]) /\
   ∀ base:Heap,(K w.params).In base->base.Ns Ql mg->WE base mg->FnOk l.prog w (K w.params) mg base (CX w) k fa fd [x] (sp w))
 (hsp:∀ (w:Qv) (H:Hp) (a:Addr) (ns:List Int),ns.length<=n->Zgj ts H->SqL (K w.params) H a (ns.map V.int)->(∀ b∈ts,H b=some (.tbl #[]))->sp w [.ref a] H (fun v _=>v=.bl true) fun _ _ _=>False)
 (hCX:∀ (w:Qv) (H:Hp) (s:Qe) (e:Qb) (s':Qe),CX w [] H s (fun _ _ _=>False) e s'->False) :
 PySem.W.WalkO q loose XP YP l.row.toRowW d [] (fun f vs=>PySem.call f vs):=by
 refine Att.attach_call hn hdf fun w s₀ s₁ mg mb fa o pm cd doc a vs ns G Y ho hd hcd hmg hobj hints hlen hg=>?_
 obtain ⟨KX,hT⟩:=hY w _ Y
 obtain ⟨fd,hb,hF⟩:=F w mg fa _ KX G.T.g hmg
 exact Zib (ts:=ts) KX G.T.g G.T.b G.T.builtins G.T.nolimit hg G.T.bmain hobj hints (Qn hlen hn2) hr (fun b hb'=>⟨hT b hb',(hK w b hb').1,let ⟨c,hc⟩:=(hK w b hb').2;⟨c,NL KX hc⟩⟩) hF hb (fun H hO hS hTb=>hsp w H a ns hlen hO hS hTb) fun H e s'=>hCX w H s₁ e s'
abbrev Zac (apos:Pos):Arguments:={ posonlyargs:=[],args:=[{ arg:="pair",annotation:=none,pos:=apos }],vararg:=none,kwonlyargs:=[],kw_defaults:=[],kwarg:=none,defaults:=[] }
abbrev US (p1 p2 p3:Pos):Expr:=.Subscript (.Name "pair" p1) (.Constant (.int 0) 0 p2) p3
abbrev Uc:Scope:={ kind:=.function,names:=[("pair",.local)],isGenerator:=false,isCoroutine:=false,more:=[] }
section
variable {prog:Qk}{w:Qv}{A:QF}{E:Qb->Qe->Prop}{s:Qe}
theorem ZjV {q t:Addr}{qual:Str}{apos p1 p2 p3:Pos}{pm cdv ct k:Qb}{its:Array Qb}{Q:Qb->Qe->Prop}
 (ho:s.heap.get? q=some { cls:=.type "function",data:=.func (OG "<lambda>" qual (Zac apos) (US p1 p2 p3) Uc [] pm cdv ct) }) (hcd:s.heap.CodeRec cdv qual) (hlim:s.heap.NoLimit) (hroom:A.depth < Ru)
 (ht:Rq s.heap t its) (h0:its[0]?=some k)
 (hQ:∀ h' tk,(∀ b o,s.heap.get? b=some o->h'.get? b=some o)->s.heap.objs.size<=h'.objs.size->Q k { s with heap:=h',toks:=tk }) :
 Qq (Qt prog w) A (call (.ref q) [.ref t]) Q E s:=by
 refine JF (kla_callFunE (body:=US p1 p2 p3) hroom ho rfl rfl rfl rfl hcd ?_)
 refine RF (a:=[(QA "pair",Qo t)]) rfl ?_
 refine Tz rfl (fun y hy=>?_) fun env he s₁ x=>⟨hlim.keeps x.toInCall.keep,kla_codeExpr ?_⟩
 ·rw [mem_singleton.mp hy];exact .inl rfl
 have hns:=x.toInCall.ns
 obtain ⟨h1,tk1,e1⟩:=x.toInCall.same
 have hkeep:=x.toInCall.keep
 have hfr:=x.toInCall.fresh
 have hL:=hns.lt
 have hkind:env.kindOf "pair"=some .local:=by rw [he];rfl
 have hm:(NH env.kindOf [(QA "pair",Qo t)] fun _=>none) "pair"=some (.ref t):=by
  rw [he];rfl
 have hsc:env.scope.kind=.function:=by rw [he];rfl
 clear x
 refine OC (Ov (PP hsc hkind hns hm (Ow ?_)) (by decide))
 have ht1:Rq s₁.heap t its:=by
  obtain ⟨o,e,r⟩:=ht
  exact ⟨o,hkeep _ _ e,r⟩
 have fin:Q k { s₁ with toks:=s₁.toks+1 }:=by
  subst e1
  exact hQ h1 (tk1+1) hkeep (GH (QO hfr hL))
 have hsz:0 < its.size:=(Ga.mp h0).1
 have ht2:Rq (Shared.heap { s₁ with toks:=s₁.toks+1 }) t its:=ht1
 exact Ph (x:=k) ht2.typeIs Gq.lookup
  (getItem_tuple (j:=0) (Q:=fun r s'=>r=k/\(fun v s'=>(match (Except.ok (Flow.ret v):Oz) with | .ok (.ret v)=>Q v s' | .ok _=>False | .error e=>E e s')) r s') ht2 (by decide) (by decide) (Zcg (n:=its.size) (i:=0) (j:=0) (by unfold XI;rw [if_pos (by decide),if_pos (by omega)];rfl)).1 h0 ⟨rfl,fin⟩) rfl
theorem Zeu:∀{ts:List Addr}{us:List Qb},Vals (ts.map V.ref) us->us=ts.map Qo
 | [],_,.nil=>rfl
 | t::ts,_,.cons r h=>by
  have e:=Zeu h
  cases (show _=Qo t from r)
  rw [e];rfl
end
def ZgG (ks:List Str)(ts ts':List Addr):Prop:=∃ ps:List (Str×Addr),ps.Perm (ks.zip ts)/\ts'=ps.map (·.2)/\ps.Pairwise fun p q=>¬ (q.1.cps.toList < p.1.cps.toList)
def unR:Qb->Addr
 | .ref a=>a
 | _=>0
theorem Zlr {ks:List Str}{ts:List Addr}{out:List Qb}(h:ZaM ks (ts.map Qo) out):∃ ts',out=ts'.map Qo/\ZgG ks ts ts':=by
 obtain ⟨ps,hp,ho,hs⟩:=h
 have hmem:∀ p∈ps,p.2=Qo (unR p.2):=fun p hp'=>by
  have h1:=(of_mem_zip (show (p.1,p.2)∈_ from hp.mem_iff.mp hp')).2
  obtain ⟨t,_,e⟩:=mem_map.mp h1
  rw [<- e];rfl
 refine ⟨ps.map fun p=>unR p.2,?_,ps.map (fun p=>(p.1,unR p.2)),?_,?_,?_⟩
 ·rw [ho,map_map]
  exact Tg hmem
 ·have h1:=hp.map fun p:Str×Qb=>(p.1,unR p.2)
  have h2:(ks.zip (ts.map Qo)).map (fun p:Str×Qb=>(p.1,unR p.2))=ks.zip ts:=by
   rw [List.zip_map_right,map_map]
   have:((fun p:Str×Qb=>(p.1,unR p.2)) ∘ Prod.map id Qo)=(id:Str×Addr->Str×Addr):=by funext p;rfl
   rw [this,List.map_id]
  rwa [h2] at h1
 ·rw [map_map];rfl
 ·rw [Pm];exact hs
def Ua (c:Addr)(qual:Str):Heap->Prop:=fun h=>h.CodeRec (.ref c) qual
def LamAt (H:Hp)(Pl:Addr)(lpos:Pos)(qual:Str):Prop :=
 H Pl=some (.tbl #[])\/∃ c,H Pl=some (.tbl #[Gf lpos.line,Gf lpos.col,.ref c])/\H c=some (.ext (Ua c qual))
theorem ZlD {P:Qk}{w:Qv}{H:Hp}{h:Heap}{c:Addr}{qual:Str}(e:h.CodeRec (.ref c) qual):ObjOk P w H h c (.ext (Ua c qual)):=by
 obtain ⟨c',o,vs,t,z,g,r⟩:=id e
 cases z
 refine ⟨e,⟨o,g⟩,fun h1 h2 p k=>?_⟩
 obtain ⟨c',o,vs,t,z,g,r⟩:=p
 cases z
 exact ⟨_,o,vs,t,rfl,k _ g,r⟩
def Grown (Pl:Addr)(H H':Hp):Prop:=∀ b o,b≠Pl->H b=some o->H' b=some o
section
variable {X:Cx}{pins:List (Addr×Obj)}{σ:List (Option V)}{H:Hp}{s:Qe}{h':Heap}
theorem Inv.table {t':Nat}{Pl c:Addr}{ps:Array Qb}{qual:Str}{lpos:Pos}(I:Inv X pins σ H s)(hP:H Pl=some (.tbl ps))(k:∀ b o,b≠Pl->s.heap.get? b=some o->h'.get? b=some o)
 (hT:h'.get? Pl=some (Nr (ps++#[Gf lpos.line,Gf lpos.col,.ref c]))) (hc:s.heap.objs.size<=c) (hr:h'.CodeRec (.ref c) qual) :
 Inv X pins σ (upd (upd H Pl (.tbl (ps++#[Gf lpos.line,Gf lpos.col,.ref c]))) c (.ext (Ua c qual))) { s with heap:=h',toks:=t' }:=by
 have hcn:H c=none:=I.hok.fresh hc
 have hcP:c≠Pl:=fun z=>by rw [z,hP] at hcn;cases hcn
 have nP:∀ b,H b=none->b≠Pl:=fun b z e=>by rw [e,hP] at z;cases z
 have off:∀ b o,b≠Pl->H b=some o->upd (upd H Pl (.tbl (ps++#[Gf lpos.line,Gf lpos.col,.ref c]))) c (.ext (Ua c qual)) b=some o:=fun b o h1 e=>by rw [Zg (Zt e hcn),Zg h1];exact e
 have nL:X.env.locals≠Pl:=nP _ I.free
 refine I.step (g':=s.gens) (d':=s.drawn) (ch:=[]) (fun _ z=>nomatch z) (fun b o _ _ _ e n=>k b o (nP b n) e) (fun b o _ _ _ e n=>⟨o.slots,k b o (nP b n) e⟩) (fun b o _ e n=>?_) (fun b o _ e=>?_)
  (fun b xs e=>off b _ (fun z=>by rw [z,hP] at e;cases e) e) (fun b o u e=>off b _ (fun z=>by rw [z,hP] at e;cases e) e) (fun b qs e=>?_) (fun m hm=>?_) (fun b u e=>?_) I.bare
 ·rw [Zg (fun z=>by rw [z] at e;exact absurd (Qj e) (Go.mpr hc)),Zg (nP b n)];exact n
 ·by_cases hb:b=Pl
  ·exact ⟨_,by rw [hb];exact hT⟩
  ·exact ⟨o,k b o hb e⟩
 ·by_cases hb:b=Pl
  ·rw [hb,hP] at e
   cases e
   exact ⟨#[Gf lpos.line,Gf lpos.col,.ref c],by rw [hb,Zg hcP.symm,Zf]⟩
  ·exact ⟨#[],by rw [off b _ hb e];simp⟩
 ·obtain ⟨o,es,ep,ho,r⟩:=hm
  exact ⟨o,es,ep,k _ o nL ho,r⟩
 ·by_cases h1:b=c
  ·subst h1
   rw [Zf] at e
   cases e
   exact ZlD hr
  ·rw [Zg h1] at e
   by_cases h2:b=Pl
   ·subst h2
    rw [Zf] at e
    cases e
    exact hT
   ·rw [Zg h2] at e
    refine (I.hok b u e).stay (fun d v hd y=>k d v ?_ y) (fun d y=>off d _ (fun z=>by rw [z,hP] at y;cases y) y) fun d xs y=>off d _ (fun z=>by rw [z,hP] at y;cases y) y
    rcases hd with z | z
    ·rw [z];exact h2
    ·exact fun z2=>by rw [z2,hP] at z;cases z
theorem Zjh {A:QF}{E:Qb->Qe->Prop}{Q:Qb->Qe->Prop}{c Pl:Addr}{apos p1 p2 p3 lpos:Pos}(I:Inv X pins σ H s)(hcode:X.env.code=.ref c)(C:Sy X.K c Pl=true)(hBm:WE X.base X.mg)(hL:LamAt H Pl lpos (X.env.qual++"<lambda>"))
 (h:∀ (q:Addr) (H':Hp) (s':Qe) (pm cdv ct:Qb),Inv X pins σ H' s'->Grown Pl H H'->LamAt H' Pl lpos (X.env.qual++"<lambda>")->s'.heap.get? q=some { cls:=.type "function",data:=.func (OG "<lambda>" (X.env.qual++"<lambda>") (Zac apos) (US p1 p2 p3) Uc [] pm cdv ct) } ->
  s'.heap.CodeRec cdv (X.env.qual++"<lambda>")->Q (.ref q) s') :
 Qq (Qt X.prog X.w) A (eval (.Lambda (Zac apos) (US p1 p2 p3) Uc lpos) X.env) Q E s:=by
 rw [arm_eval_Lambda]
 refine Qg (m:=evalAll []) (OU (Qg (Ge (m:=evalAllOpt []) (RF (a:=[]) rfl ?_))))
 have hcl:closureFor Uc X.env=pure []:=rfl
 have hg:=I.mod.glob.keeps I.bk
 have CH:=NL I.kIn C
 have tab:∀ ps,H Pl=some (.tbl ps)->s.heap.get? Pl=some (Nr ps):=fun ps e=>I.hok Pl _ e
 have bmAt:∀ ps,s.heap.get? Pl=some (Nr ps)->s.heap.BuiltinsAt X.mg Pl/\Ql≠Pl:=fun ps e=>by
  obtain ⟨bm,ob,b1,b2,b3,b4,b5,b6⟩:=hBm
  have b3':=I.bk _ _ b3
  have hmg:Ql≠Pl:=fun z=>by
   obtain ⟨o,es,ep,y,hd,_⟩:=hg
   rw [z,e] at y;cases y;cases hd
  refine ⟨⟨bm,ob,b1,b2,fun z=>?_,(fun z=>by rw [z,e] at b3';cases b3';cases b4),b3',b4,b5,b6⟩,hmg⟩
  obtain ⟨o,es,ep,y,hd,_⟩:=hg
  rw [<- z,b3'] at y;cases y
  rw [b6] at hd;cases hd
 rcases hL with e | ⟨c',e,ec⟩
 ·have hP:=tab _ e
  obtain ⟨hb,hgP⟩:=bmAt _ hP
  refine Nt (clos:=[]) hcl I.ok.glob hg hcode CH hP trivial rfl hgP hb fun c' ctv h' tk hx hge hlt hrec hT=>?_
  have I1:=I.table (t':=tk) (h':=h') (qual:=X.env.qual++"<lambda>") (lpos:=lpos) e (fun b o hb' y=>hx b o hb' y) hT hge hrec
  have hcn:H c'=none:=I.hok.fresh hge
  have hcP:c'≠Pl:=fun z=>by rw [z,e] at hcn;cases hcn
  refine h _ _ _ ((X.mg "__name__").getD .none) (.ref c') ctv (I1.kept (t':=tk) fun b o y=>Qd _ y) (fun b o h1 y=>by rw [Zg (Zt y hcn),Zg h1];exact y) (.inr ⟨c',by rw [Zg hcP.symm,Zf];rfl,Zf⟩) (Qs _ rfl) (hrec.push _)
 ·have hP:=tab _ e
  obtain ⟨hb,hgP⟩:=bmAt _ hP
  have hrec:s.heap.CodeRec (.ref c') (X.env.qual++"<lambda>"):=(I.hok c' _ ec).1
  refine Ob (clos:=[]) (cv:=.ref c') hcl I.ok.glob hg hcode CH hP trivial (by simp [Nu,Gf]) hb fun ctv h' tk hk hz=>?_
  exact h _ _ _ ((X.mg "__name__").getD .none) (.ref c') ctv ((I.kept (h':=h') (t':=tk) hk).kept (t':=tk) fun b o y=>Qd _ y) (fun b o _ y=>y) (.inr ⟨c',e,ec⟩) (Qs _ rfl) ((hrec.keeps hk).push _)
end
def Zpy (Pl:Addr)(lpos:Pos)(qual:Str)(te:TE):TE:=fun σ H Q=>te σ H fun x H1=>∃(l:Addr)(ts:List Addr)(ks:List Str),[x]=[.ref l]/\H1 l=some (.lst (ts.map V.ref))/\ts.length < 64/\ks.length=ts.length /\
 (∀ (i:Nat) (t:Addr) (k:Str),ts[i]?=some t->ks[i]?=some k->∃ vs,H1 t=some (.tup (.str k::vs)))/\LamAt H1 Pl lpos qual /\
 ∀ (H2:Hp) (r:Addr) (ts':List Addr),Grown Pl H1 H2->LamAt H2 Pl lpos qual->H2 r=none->ZgG ks ts ts'->Q (.ref r) (upd H2 r (.lst (ts'.map V.ref)))
section
variable {X:Cx}
theorem ZiH {k:Nat}{e:Expr}{te:TE}{apos p1 p2 p3 lpos kpos p pos:Pos}{c Pl:Addr}(hg:Gl X "sorted")(hm:X.mg "sorted"=none)(he:PE X e te)(hr:Room k X.A)(hcode:X.env.code=.ref c)(C:Sy X.K c Pl=true)(hBm:WE X.base X.mg)
 (hs:QE [e] X.env=[(false,eval e X.env)]:=by rfl):PE X (.Call (.Name "sorted" p) [e] [⟨some "key",.Lambda (Zac apos) (US p1 p2 p3) Uc lpos,kpos⟩] pos) (Zpy Pl lpos (X.env.qual++"<lambda>") te):=by
 intro pins s σ H Q I h
 have ha:PA X [e] (XZ te WP):=Yv he Za hs
 refine QV (Ur I hg hm boot_sorted (callWith_kw ?_ (by rw [hs];rfl) (by rw [hs];rfl) rfl rfl))
 refine Zs (ha pos pins s σ H (fun xs H1=>∃ (l:Addr) (ts:List Addr) (ks:List Str),xs=[V.ref l]/\H1 l=some (.lst (ts.map V.ref))/\ts.length < 64/\ks.length=ts.length /\
  (∀ (i:Nat) (t:Addr) (k:Str),ts[i]?=some t->ks[i]?=some k->∃ vs,H1 t=some (.tup (.str k::vs)))/\LamAt H1 Pl lpos (X.env.qual++"<lambda>") /\
  ∀ (H2:Hp) (r:Addr) (ts':List Addr),Grown Pl H1 H2->LamAt H2 Pl lpos (X.env.qual++"<lambda>")->H2 r=none->ZgG ks ts ts'->Q (.ref r) (upd H2 r (.lst (ts'.map V.ref)))) I h) fun us s1 ⟨vs,H1,I1,r1,q1⟩=>?_
 obtain ⟨l,ts,ks,rfl,el,h64,hlen,htup,hL,q⟩:=q1
 obtain ⟨u,rfl,ru⟩:=Yt r1
 cases ru
 refine kws_cons (Zjh I1 hcode C hBm hL fun fq H2 s2 pm cdv ct I2 gr hL2 hfo hrec=>kws_nil ?_)
 have nl:l≠Pl:=fun z=>by
  rw [z] at el
  rcases hL with y | ⟨_,y,_⟩<;>(rw [el] at y;cases y)
 have el2:=gr l _ nl el
 obtain ⟨its,rv,pl,hz⟩:=I2.list (SqL.of el2)
 have hits:=Zeu rv
 subst hits
 have tupAt:∀ (i:Nat) (t:Addr) (k:Str),ts[i]?=some t->ks[i]?=some k->∃ its':Array Qb,Rq s2.heap t its'/\∃ tk,its'[0]?=some (.str k tk):=fun i t k h1 h2=>by
  obtain ⟨vs,ev⟩:=htup i t k h1 h2
  have nt:t≠Pl:=fun z=>by
   rw [z] at ev
   rcases hL with y | ⟨_,y,_⟩<;>(rw [ev] at y;cases y)
  obtain ⟨_,itv,rv',pt⟩:=(show ObjOk X.prog X.w H2 s2.heap t (.tup (.str k::vs)) from I2.hok t _ (gr t _ nt ev))
  cases rv' with
  | cons r rr =>
   obtain ⟨tk,e⟩:=r
   exact ⟨_,pt,tk,by rw [e];rfl⟩
 refine ZkR (vs:=ts.map Qo) (ks:=ks) pl.isList (by rw [length_map];exact hlen) (by rw [length_map];exact h64) (fun x=>ksk_t1 fq x) (fun h1 tk1 k1 z1=>?_) fun h' tk out cc k3 a3 o3=>?_
 ·intro i v k hv hk h2 tk2 k2 z2 Q' hQ'
  rw [getElem?_map] at hv
  cases ht:ts[i]? with
  | none=>rw [ht] at hv;cases hv
  | some t =>
   rw [ht] at hv
   cases (show some (Qo t)=some v from hv)
   obtain ⟨its',pt,tk',e0⟩:=tupAt i t k ht hk
   have kp:∀ b o,s2.heap.get? b=some o->h2.get? b=some o:=fun b o y=>k2 b o (Qw (Jz (Qj y))) (k1 b o y)
   have pt2:Rq h2 t its':=by
    obtain ⟨o,eo,r⟩:=pt
    exact ⟨o,kp _ _ eo,r⟩
   exact ZjV (s:={ s2 with heap:=h2,toks:=tk2 }) (kp _ _ hfo) (hrec.keeps kp) (I2.nolimit.keeps kp) (show X.A.depth < Ru by have:=hr.dp;omega) pt2 e0 fun h3 tk3 k3 z3=>hQ' h3 tk3 tk' k3 z3
 ·obtain ⟨ts',hout,hT⟩:=Zlr o3
  have rv2:Vals (ts'.map V.ref) out.toList:=by
   rw [hout]
   clear hout hT o3
   induction ts' with
   | nil=>exact .nil
   | cons t r ih=>exact .cons rfl ih
  have hl2:(ts'.map V.ref).length<=sizeLine:=by
   obtain ⟨ps,hp,e,_⟩:=hT
   have:=hp.length_eq
   rw [JV] at this
   rw [length_map,e,length_map,this]
   exact ZfJ (by omega)
  exact ⟨.ref _,_,I2.laid (t':=tk) k3 (Gu _) (show ObjOk X.prog X.w _ h' _ (.lst (ts'.map V.ref)) from ⟨hl2,out.toList,cc,rv2,by rw [RH];exact a3⟩),rfl,q H2 _ ts' gr hL2 (I2.hok.fresh (Gu _)) hT⟩
end
theorem ZbS:QY (.type "tuple") "keys"=pure none:=am_miss_of_fast (by decide +kernel)
section
variable {prog:Qk}{w:Qv}{A:QF}{E:Qb->Qe->Prop}{s:Qe}
theorem ZhL {a:Addr}{xs:Array Qb}{k:Nat}{sl:Array (Option Qb)}{Q:Option Qb->Qe->Prop}(hx:s.heap.get? a=some { cls:=.type "tuple",dict:=none,data:=.seq xs k,slots:=sl })(hA:A.handled=none)
 (h:∀ h' tk,(∀ b o,s.heap.get? b=some o->h'.get? b=some o)->Q none { s with heap:=h',toks:=tk }):Qq (Qt prog w) A (getAttr? (.ref a) "keys") Q E s:=by
 obtain ⟨hp,g,d,tk,os⟩:=s
 have hT:∀ tk',(⟨hp,g,d,tk',os⟩:Qe).TypeIs (.ref a) "tuple":=fun _=>⟨_,hx,rfl⟩
 have f1:=sub_AttributeError
 have f3:=TN.lookup
 have f4:=TN.bind (.ref a)
 have f5:=am_tuple_getattr_none
 unfold getAttr? getAttrBy? getAttrBy
 repeat (any_goals first | assumption | exact hT _ | ((with_reducible show Qq _ _ (call (JS "tuple.__getattribute__") _ _) _ _ _);refine JH F.slot_tuple_getattribute (hT _) am_entry_tuple_getattribute (F.args_tuple_getattribute_2 _ _) (meets_getattribute_miss_tuple a xs k sl "keys" _ ZbS (by decide) (by decide)) ⟨hx,hA,fun h' tk' e hx'=>?_⟩) | wp_step)
 obtain ⟨t',u',he⟩:=hx'.there
 show Qq _ _ (OH _ _ _ _ _ _ _) _ _ _
 unfold OH
 repeat (any_goals first | assumption | wp_step)
 all_goals exact h _ _ hx'.keeps
theorem UZ:entryFor table "dict.update.loop"=some Jy.«dict.update.loop»:=entryFor_of_tree (by kernel_rfl)
theorem XE:plainId "dict.update.loop"=true:=by decide +kernel
end
section
variable {prog:Qk}{w:Qv}{A:QF}{R:Oz->Qe->Prop}
def PairAt (prog:Qk)(w:Qv)(h:Heap)(v:Qb)(p:Zn×Qb):Prop:=∃ tt key,v=.ref tt/\Rq h tt #[key,p.2]/\(ZN prog w).is p.1 key=true
theorem PairAt.keep {h h':Heap}{v:Qb}{p:Zn×Qb}(x:PairAt prog w h v p)(k:∀ b o,h.get? b=some o->h'.get? b=some o):PairAt prog w h' v p:=by
 obtain ⟨tt,key,e,⟨o,eo,r⟩,z⟩:=x
 exact ⟨tt,key,e,⟨o,k _ _ eo,r⟩,z⟩
theorem PairAt.but {h h':Heap}{v:Qb}{p:Zn×Qb}{d:Addr}{o:Obj}(x:PairAt prog w h v p)(hd:h.get? d=some o)(hc:o.cls≠.type "tuple")(k:∀ b o,b≠d->h.get? b=some o->h'.get? b=some o):PairAt prog w h' v p:=by
 obtain ⟨tt,key,e,⟨ot,eo,c,r⟩,z⟩:=x
 refine ⟨tt,key,e,⟨ot,k _ _ (fun y=>?_) eo,c,r⟩,z⟩
 rw [y,hd] at eo
 cases eo
 exact hc c
theorem Zjo {d I t:Addr}{its:Array Qb}(ps:List (Zn×Qb))(hlen:ps.length=its.size)(hnd:(ps.map (·.1)).Nodup)(hsz:ps.length<=Qi)(hh:A.handled=none)(hIt:I≠t)(hId:I≠d) :
 ∀ (k i:Nat) (s:Qe) (n:Int) (tk:Tok),ps.length - i=k->i<=ps.length->s.heap.IsTupleIter I t i->s.heap.IsTuple t its->(∀ (j:Nat) (v:Qb) (p:Zn×Qb),its[j]?=some v->ps[j]?=some p->PairAt prog w s.heap v p)->s.heap.DictOf (ZN prog w) d (ps.take i) ->
 (∀ h' tk',(∀ b o,b≠I->b≠d->s.heap.get? b=some o->h'.get? b=some o)->h'.DictOf (ZN prog w) d ps->R (.ok (.ret .none)) { s with heap:=h',toks:=tk' }) ->
 JU (Qt prog w) A (.builtin "dict.update.loop" ⟨[.ref d,.ref I,.int n tk,.none],[]⟩) R s:=by
 have W:=Walks.tuple (prog:=prog) (w:=w) (A:=A.in1) hh I t hIt.symm its
 intro k
 induction k with
 | zero =>
  intro i s n tk hk hi hit htp hpr hd hR
  have hin:i=its.size:=by omega
  refine Tc UZ ?_
  rw [RI XE _]
  show Qq _ A.in1 (pyNext (.ref I) >>= _) _ _ s
  refine Qg (W.done s _ _ ⟨by rw [<- hin];exact hit,htp⟩ fun h' tk' kk=>?_)
  show Qq _ _ (Builtin.Dict.addKeywords d [] >>= _) _ _ _
  refine Qg (Qp (Qp (hR h' tk' (fun b o h1 _ y=>kk b o (by simpa using h1) y) ?_)))
  rw [Po (by omega)] at hd
  obtain ⟨o,es,ep,eo,r⟩:=hd
  exact ⟨o,es,ep,kk d o (by simpa using hId.symm) eo,r⟩
 | succ k ih =>
  intro i s n tk hk hi hit htp hpr hd hR
  have hlt:i < its.size:=by omega
  refine Tc UZ ?_
  rw [RI XE _]
  show Qq _ A.in1 (pyNext (.ref I) >>= _) _ _ s
  refine Qg (W.item i s _ _ hlt ⟨hit,htp⟩ fun v h1 tk1 hv st1 kk=>?_)
  obtain ⟨hit1,htp1⟩:=st1
  have hI0:∃ o,s.heap.get? I=some o/\o.cls≠.type "tuple":=by
   obtain ⟨o,eo,c,_⟩:=hit
   exact ⟨o,eo,by rw [c];decide⟩
  have hpr1:∀ (j:Nat) (v:Qb) (p:Zn×Qb),its[j]?=some v->ps[j]?=some p->PairAt prog w h1 v p:=fun j v p a b=>by
   obtain ⟨o,eo,c⟩:=hI0
   exact (hpr j v p a b).but eo c fun b o hb y=>kk b o (by simpa using hb) y
  obtain ⟨p,hp⟩:∃ p,ps[i]?=some p:=⟨_,getElem?_eq_getElem (by omega)⟩
  have hv':its[i]?=some v:=hv
  obtain ⟨tt,key,rfl,⟨ot,eo,oc,on,od⟩,hkey⟩:=hpr1 i v p hv' hp
  have hd1:h1.DictOf (ZN prog w) d (ps.take i):=by
   obtain ⟨o,es,ep,eo,r⟩:=hd
   exact ⟨o,es,ep,kk d o (by simpa using hId.symm) eo,r⟩
  have hT:Oo { s with heap:=h1,toks:=tk1 } (.ref tt) "tuple":=⟨ot,eo,oc⟩
  have hnew:stored (ps.take i) p.1 p.2=ps.take (i+1):=by
   have hni:p.1 ∉ (ps.take i).map (·.1):=fun z=>by
    have e1:(ps.map (·.1))=(ps.take i).map (·.1)++(ps.drop i).map (·.1):=by rw [<- map_append,List.take_append_drop]
    rw [e1,Pp] at hnd
    refine hnd.2.2 _ z _ (mem_map.mpr ⟨p,?_,rfl⟩) rfl
    exact mem_of_getElem? (i:=0) (by rw [OE];simpa using hp)
   unfold stored
   rw [if_neg,take_add_one,hp]
   ·rfl
   ·intro z
    obtain ⟨q,hq,e⟩:=List.any_eq_true.mp z
    exact hni (mem_map.mpr ⟨q,hq,by simpa using e⟩)
  show Qq _ A.in1 (Pd [.ref tt] _ >>= _) _ _ _
  refine Qg (Ge ?_)
  refine Qg (wpAny_tryCatch ?_)
  unfold Builtin.Dict.pairItems
  refine Qg (SV hT ?_)
  rw [if_pos (by decide)]
  refine Qg (wpAny_seqItems eo od (Qp ?_))
  show Qq _ _ (Pd [key,p.2] (dictSet d key p.2)) _ _ _
  refine Ge (wpAny_dictSet_pairs hkey hd1 (fun h2 hd2 hs2=>?_) (Qn (by rw [length_take];omega) hsz))
  rw [hnew] at hd2
  refine Qp ⟨plainId_quiet XE _,ih (i+1) _ (n+1) _ (by omega) (by omega) ?_ ?_ ?_ hd2 ?_⟩
  ·obtain ⟨o,eo',r⟩:=hit1
   exact ⟨o,(hs2.2 I hId).trans eo',r⟩
  ·obtain ⟨o,eo',r⟩:=htp1
   refine ⟨o,(hs2.2 t (fun z=>?_)).trans eo',r⟩
   obtain ⟨o',es,ep,eo2,c2,_⟩:=hd1
   rw [z,eo2] at eo'
   cases eo'
   rw [c2.1] at r
   exact absurd r.1 (by decide)
  ·intro j v p a b
   obtain ⟨o',es,ep,eo2,c2,_⟩:=hd1
   exact (hpr1 j v p a b).but eo2 (by rw [c2.1];decide) fun b o hb y=>(hs2.2 b hb).trans y
  ·intro h3 tk3 k3 hd3
   exact hR h3 tk3 (fun b o h4 h5 y=>k3 b o h4 h5 ((hs2.2 b h5).trans (kk b o (by simpa using h4) y))) hd3
end
section
variable {prog:Qk}{w:Qv}{A:QF}{E:Qb->Qe->Prop}{s:Qe}
theorem Zdc {t:Addr}{its:Array Qb}{Q:Qb->Qe->Prop}(ps:List (Zn×Qb))(ht:Rq s.heap t its)(hnd0:∃ o,s.heap.get? t=some o/\o.dict=none)(hlen:ps.length=its.size)(hnd:(ps.map (·.1)).Nodup)(hsz:ps.length<=Qi)(hh:A.handled=none)
 (hpr:∀ (j:Nat) (v:Qb) (p:Zn×Qb),its[j]?=some v->ps[j]?=some p->PairAt prog w s.heap v p)
 (h:∀ h' tk',(∀ b o,s.heap.get? b=some o->h'.get? b=some o)->h'.DictOf (ZN prog w) s.heap.objs.size ps->Q (.ref s.heap.objs.size) { s with heap:=h',toks:=tk' }) :
 Qq (Qt prog w) A (call (.type "dict") [.ref t]) Q E s:=by
 refine callType_codes (Q₁:=fun obj s₁=>obj=.ref s.heap.objs.size/\s₁={ s with heap:=s.heap.push { cls:=.type "dict",data:=.dict #[] } }) F.kt_called_dict (F.kt_typeCall_dict_1 _) F.entry_dict_init (kt_code_dict_new _ ⟨rfl,rfl⟩) ?_
 rintro obj s₁ ⟨rfl,rfl⟩
 have hnew:(s.heap.push { cls:=.type "dict",data:=.dict #[] }).DictOf (ZN prog w) s.heap.objs.size []:=NR s.heap
 have tlt:t < s.heap.objs.size:=by obtain ⟨o,eo,_⟩:=ht;exact Qj eo
 obtain ⟨ot,eot,oct,on,odt⟩:=id ht
 obtain ⟨o2,eo2,hdict⟩:=hnd0
 rw [eot] at eo2
 cases eo2
 refine ⟨hnew.typeIs,F.args_dict_init_2 _ _,?_⟩
 unfold Jy.«dict.__init__»
 refine Qg ?_
 unfold Builtin.Dict.selfAndRest
 refine Qg (wpAny_notOrdered_dict hnew.typeIs ?_)
 show Qq _ _ (pure (s.heap.objs.size,[Qo t])) _ _ _
 refine Qp ?_
 show Qq _ _ (Sz "dict.__init__" s.heap.objs.size (.ref t) [] .none) _ _ _
 unfold Sz
 have hT:Oo { s with heap:=s.heap.push { cls:=.type "dict",data:=.dict #[] } } (.ref t) "tuple":=⟨ot,Qd _ eot,oct⟩
 refine Qg (SV hT ?_)
 rw [if_pos (by decide)]
 obtain ⟨c0,d0,dt0,sl0⟩:=ot
 have e1:c0=.type "tuple":=oct
 have e2:d0=none:=hdict
 have e3:dt0=.seq its on:=odt
 subst e1 e2 e3
 refine Qg (ZhL (s:={ s with heap:=s.heap.push { cls:=.type "dict",data:=.dict #[] } }) (Qd _ eot) hh fun h1 tk1 k1=>?_)
 rw [if_pos (show (none:Option Qb).isNone=true from rfl)]
 have et1:=k1 _ _ (Qd { cls:=.type "dict",data:=.dict #[] } eot)
 have hd1:h1.DictOf (ZN prog w) s.heap.objs.size []:=by
  obtain ⟨o,es,ep,eo,r⟩:=hnew
  exact ⟨o,es,ep,k1 _ _ eo,r⟩
 have dlt:s.heap.objs.size < h1.objs.size:=by obtain ⟨o,es,ep,eo,r⟩:=hd1;exact Qj eo
 refine Qg (Ox (Qg (Oy (items:=its) ⟨_,et1,rfl,on,rfl⟩ ?_)))
 refine Qp ⟨plainId_quiet XE _,Zjo (A:=A.in1) ps hlen hnd hsz hh (Jl (Qj et1)) (Jl dlt) ps.length 0 _ 0 _ (by omega) (QC _) ⟨_,Qs _ rfl,rfl,rfl⟩ ⟨_,Qd _ et1,rfl,on,rfl⟩ ?_ ?_ ?_⟩
 ·intro j v p a b
  exact (hpr j v p a b).keep fun b o y=>Qd _ (k1 _ _ (Qd _ y))
 ·obtain ⟨o,es,ep,eo,r⟩:=hd1
  exact ⟨o,es,ep,Qd _ eo,r⟩
 ·intro h' tk' k3 hd3
  refine ⟨rfl,h h' tk' (fun b o y=>?_) hd3⟩
  have y1:=k1 _ _ (Qd { cls:=.type "dict",data:=.dict #[] } y)
  exact k3 b o (Qw (Qj y1)) (Qw (Qj y)) (Qd _ y1)
end
section
variable {X:Cx}
theorem UA (hc:X.calm=true):Yz X (.type "dict") (fun xs H Q=>∃ (t:Addr) (ts:List Addr) (kvs:List (Str×V)),xs=[.ref t]/\(∃ o,H t=some (.frz o (.tup (ts.map V.ref)))/\o.dict=none)/\ts.length=kvs.length/\kvs.length<=1000 /\
   (∀ (i:Nat) (a:Addr) (p:Str×V),ts[i]?=some a->kvs[i]?=some p->H a=some (.tup [.str p.1,p.2]))/\(kvs.map (·.1)).Nodup/\∀ d,H d=none->Q (.ref d) (upd H d (.dK (kvs.map fun p=>(Qu p.1,p.2))))):=by
 intro pins s σ H xs us Q I r h
 obtain ⟨t,ts,kvs,rfl,⟨ot0,hq0,hdn⟩,hlen,hsz,hp,hnd,q⟩:=h
 have hq:SqT X.K H t (ts.map V.ref):=.inl (.inr ⟨ot0,hq0⟩)
 have eo0:=(I.hok t _ hq0).1
 obtain ⟨u,rfl,ru⟩:=Yt r
 cases ru
 obtain ⟨its,rv,pt,hz⟩:=I.tuple hq
 have hits:=Zeu rv
 subst hits
 have build:∀ (kvs:List (Str×V)) (ts:List Addr),ts.length=kvs.length->(∀ (i:Nat) (a:Addr) (p:Str×V),ts[i]?=some a->kvs[i]?=some p->H a=some (.tup [.str p.1,p.2])) ->
     ∃ ps:List (Zn×Qb),KV (kvs.map fun p=>((Qu p.1:Zn),p.2)) ps/\ps.length=kvs.length/\ps.map (·.1)=kvs.map (fun p=>(Qu p.1:Zn))/\∀ (j:Nat) (v:Qb) (p:Zn×Qb),(ts.map Qo)[j]?=some v->ps[j]?=some p->PairAt X.prog X.w s.heap v p:=by
   intro kvs
   induction kvs with
   | nil=>intro ts _ _;exact ⟨[],.nil,rfl,rfl,fun j v p _ e=>by simp at e⟩
   | cons kv r ih =>
     intro ts hl hh
     cases ts with
     | nil=>simp at hl
     | cons a ar =>
       obtain ⟨ps,k1,k2,k3,k4⟩:=ih ar (by simpa using hl) fun i b p e1 e2=>hh (i+1) b p (by simpa using e1) (by simpa using e2)
       obtain ⟨_,itv,rv',pa⟩:=(show ObjOk X.prog X.w H s.heap a (.tup [.str kv.1,kv.2]) from I.hok a _ (hh 0 a kv rfl rfl))
       cases rv' with
       | cons r1 rr =>
         cases rr with
         | cons r2 rr =>
           cases rr
           obtain ⟨tk,e⟩:=r1
           subst e
           rename_i u2
           refine ⟨(Qu kv.1,u2)::ps,.cons ⟨rfl,r2⟩ k1,by rw [length_cons,length_cons,k2],by rw [map_cons,map_cons,k3],fun j v p e1 e2=>?_⟩
           cases j with
           | zero =>
             cases (show some (Qo a)=some v from e1)
             cases (show some ((Qu kv.1:Zn),u2)=some p from e2)
             exact ⟨a,.str kv.1 tk,rfl,pa,Zat _ _ _ _⟩
           | succ j=>exact k4 j v p (by simpa using e1) (by simpa using e2)
 obtain ⟨ps,k1,k2,k3,k4⟩:=build kvs ts hlen hp
 have hnd2:(ps.map (·.1)).Nodup:=by
   rw [k3]
   have:kvs.map (fun p=>(Qu p.1:Zn))=(kvs.map (·.1)).map Sum.inr:=by rw [map_map];rfl
   rw [this]
   rw [List.Nodup,Pm]
   exact hnd.imp fun h e=>h (by cases e;rfl)
 refine Zdc ps pt ⟨ot0,eo0,hdn⟩ (by rw [k2,size_toArray,length_map,hlen]) hnd2 (by rw [k2];exact ZfJ hsz) (I.ok.hd hc) (fun j v p e1 e2=>k4 j v p (by simpa using e1) e2) fun h' tk' kk hd=>?_
 have hbig:=I.big
 refine ⟨.ref s.heap.objs.size,_,I.laid (t':=tk') kk (Qh _) (show ObjOk X.prog X.w _ h' _ (.dK (kvs.map fun p=>((Qu p.1:Zn),p.2))) from ⟨by rw [length_map];exact ZfJ hsz,?_,ps,k1,hd⟩),rfl,q _ (I.hok.fresh (Qh _))⟩
 exact beq_eq_false_iff_ne.mpr (Jl hbig)
end
section
variable {X:Cx}{pins:List (Addr×Obj)}{σ:List (Option V)}{H H':Hp}{s:Qe}{h':Heap}
theorem Inv.many {t':Nat}(I:Inv X pins σ H s)(k:∀ b u,s.heap.get? b=some u->h'.get? b=some u)(ext:Same H H')(new:∀ b,b < s.heap.objs.size->H' b=H b)(hok:∀ b o,s.heap.objs.size<=b->H' b=some o->ObjOk X.prog X.w H' h' b o) :
 Inv X pins σ H' { s with heap:=h',toks:=t' }:=by
 refine I.step (g':=s.gens) (d':=s.drawn) (ch:=[]) (fun _ z=>nomatch z) (fun b o _ _ _ e _=>k b o e) (fun b o _ _ _ e _=>⟨o.slots,k b o e⟩) (fun b o _ e n=>by rw [new b (Qj e)];exact n) (fun b o _ e=>⟨o,k b o e⟩)
  (fun b xs e=>ext b _ e) (fun b o u e=>ext b _ e) (fun b ps e=>⟨#[],by rw [ext b _ e];simp⟩) (fun m hm=>?_) (fun b u e=>?_) I.bare
 ·obtain ⟨o,es,ep,ho,r⟩:=hm
  exact ⟨o,es,ep,k _ o ho,r⟩
 ·by_cases hb:b < s.heap.objs.size
  ·rw [new b hb] at e
   exact (I.hok b u e).stay (fun c v _ y=>k c v y) (fun c y=>ext c _ y) fun c xs y=>ext c _ y
  ·exact hok b u (Nat.not_lt.mp hb) e
end
def Zbq (v d:Addr):Heap->Prop:=fun h=>h.IsItemsView v d
def Vf (H:Hp):List (Addr×Zn×V)->Hp
 | []=>H
 | (a,k,v)::r=>upd (Vf H r) a (.tup [kV k,v])
theorem ZaN {H:Hp}{b:Addr}:∀{l:List (Addr×Zn×V)},b ∉ l.map (·.1)->Vf H l b=H b
 | [],_=>rfl
 | (a,k,v)::r,h=>by
  rw [map_cons,mem_cons,not_or] at h
  show upd (Vf H r) a _ b=_
  rw [Zg h.1];exact ZaN h.2
theorem Zfv {H:Hp}{a:Addr}{k:Zn}{v:V}:∀{l:List (Addr×Zn×V)},(l.map (·.1)).Nodup->(a,k,v)∈l->Vf H l a=some (.tup [kV k,v])
 | (b,k',v')::r,hn,hm=>by
  rw [map_cons,nodup_cons] at hn
  show upd (Vf H r) b _ a=_
  rcases mem_cons.mp hm with e | hm
  ·cases e;exact Zf
  ·rw [Zg (fun z:a=b=>hn.1 (by show b∈_;rw [<- z];exact mem_map.mpr ⟨_,hm,rfl⟩))]
   exact Zfv hn.2 hm
theorem Zid {kvs:List (Zn×V)}{vs:List (Zn×Qb)}(r:KV kvs vs):∀{j:Nat}{k:Zn}{x:Qb},vs[j]?=some (k,x)->∃ v,kvs[j]?=some (k,v)/\RelV v x:=by
 induction r with
 | nil=>intro j k x e;simp at e
 | cons h t ih =>
  intro j k x e
  cases j with
  | zero =>
   cases (show some _=some (k,x) from e)
   rename_i a _ _
   refine ⟨a.2,?_,h.2⟩
   have e1:a.1=k:=h.1
   show some a=some (k,a.2)
   rw [<- e1]
  | succ j=>exact ih (by simpa using e)
section
variable {X:Cx}
theorem ZiF:MtR X "dict.items" (fun x xs H Q=>∃ d kvs,x=.ref d/\xs=[]/\H d=some (.dK kvs)/\∀ v,H v=none->Q (.ref v) (upd H v (.ext (Zbq v d)))):=by
 intro pins s σ H x xs v us Q I rx rv h
 obtain ⟨d,kvs,rfl,rfl,e,q⟩:=h
 cases rx
 cases rv
 obtain ⟨hz,lo,vs,kv,hd⟩:=ZbJ I.hok e
 refine OY SD hd.typeIs PySem.F.entry_dict_items (PySem.F.args_dict_items_1 _) (meets_dict_items (ZN X.prog X.w) d lo) ⟨⟨vs,hd⟩,?_⟩
 refine ⟨.ref s.heap.objs.size,_,I.laid (t':=s.toks) (fun b o y=>Qd _ y) (Qh _) (show ObjOk X.prog X.w _ _ _ (.ext (Zbq s.heap.objs.size d)) from ⟨⟨_,Qs _ rfl,rfl,rfl⟩,⟨_,Qs _ rfl⟩,?_⟩),rfl,q _ (I.hok.fresh (Qh _))⟩
 rintro h1 h2 ⟨o,eo,r⟩ k
 exact ⟨o,k _ eo,r⟩
theorem Zbm (hc:X.calm=true):Yz X (.type "list") (fun xs H Q=>∃ v d kvs,xs=[.ref v]/\H v=some (.ext (Zbq v d))/\H d=some (.dK kvs) /\
 ∀ (l:Addr) (ts:List Addr) (H2:Hp),H l=none->Same H H2->ts.length=kvs.length->(∀ a∈ts,H a=none)->(∀ (i:Nat) (a:Addr) (p:Zn×V),ts[i]?=some a->kvs[i]?=some p->H2 a=some (.tup [kV p.1,p.2]))->H2 l=some (.lst (ts.map V.ref))->Q (.ref l) H2):=by
 intro pins s σ H xs us Q I r h
 obtain ⟨v,d,kvs,rfl,ev,ed,q⟩:=h
 obtain ⟨u,rfl,ru⟩:=Yt r
 cases ru
 obtain ⟨hz,lo,vs,kv,o,es,ep,ho,r1,r2,r3,r4,r5⟩:=ZbJ I.hok ed
 have hlen:vs.length=kvs.length:=(Jb kv).symm
 refine kdx_call (knd:=ZN X.prog X.w) (kvs:=vs) (ep:=ep) (I.ok.hd hc) (I.hok v _ ev).1 ⟨o,es,ho,r1,r2,r3,r4,r5⟩ (by rw [hlen];exact hz) fun h' tk acc c as hk hS hl hG hacc=>?_
 have hl2:as.length=kvs.length:=by rw [hl,hlen]
 have hnd:as.Nodup:=hG.rise.imp fun h=>Qw h
 generalize hL:as.zip (kvs.map fun p=>p)=L
 have hm1:L.map (·.1)=as:=by
  rw [<- hL,List.map_id']
  exact Nv (by omega)
 have at_j:∀ (j:Nat) (a:Addr) (p:Zn×V),as[j]?=some a->kvs[j]?=some p->(a,p.1,p.2)∈L:=fun j a p e1 e2=>by
  rw [<- hL,List.map_id']
  exact mem_of_getElem? (i:=j) (by rw [getElem?_zip_eq_some];exact ⟨e1,e2⟩)
 have above:∀ a∈as,s.heap.objs.size < a:=hG.above
 have hfr:∀ b,s.heap.objs.size<=b->H b=none:=fun b hb=>I.hok.fresh hb
 have hnl:s.heap.objs.size ∉ L.map (·.1):=fun z=>by rw [hm1] at z;exact absurd (above _ z) (GJ _)
 have offA:∀ b,b < s.heap.objs.size->b ∉ L.map (·.1):=fun b hb z=>by rw [hm1] at z;exact absurd (Nat.lt_trans (above _ z) hb) (GJ _)
 have key:∀ b,b < s.heap.objs.size->upd (Vf H L) s.heap.objs.size (.lst (as.map V.ref)) b=H b:=fun b hb=>by rw [Zg (Qw hb),ZaN (offA b hb)]
 have sm:Same H (upd (Vf H L) s.heap.objs.size (.lst (as.map V.ref))):=fun b o e=>by rw [key b (I.hok.lt e)];exact e
 have tup_at:∀ (j:Nat) (a:Addr) (p:Zn×V),as[j]?=some a->kvs[j]?=some p->upd (Vf H L) s.heap.objs.size (.lst (as.map V.ref)) a=some (.tup [kV p.1,p.2]):=fun j a p e1 e2=>by
  rw [Zg (Jl (above a (mem_of_getElem? e1)))]
  exact Zfv (by rw [hm1];exact hnd) (at_j j a p e1 e2)
 have I2:Inv X pins σ (upd (Vf H L) s.heap.objs.size (.lst (as.map V.ref))) { s with heap:=h',toks:=tk }:=by
  refine I.many hk sm key fun b o hb e=>?_
  by_cases h0:b=s.heap.objs.size
  ·subst h0
   rw [Zf] at e
   cases e
   refine ⟨by rw [length_map,hl2];exact hz,acc.toList,c,?_,by rw [RH];exact hS⟩
   rw [hacc]
   clear hacc hl hG hl2 hnd hL hm1 at_j above hnl offA key sm tup_at
   induction as with
   | nil=>exact .nil
   | cons a r ih=>exact .cons rfl ih
  ·rw [Zg h0] at e
   by_cases hm:b∈as
   ·obtain ⟨j,hj⟩:=GR.mp hm
    obtain ⟨keyv,kk,x,e1,e2,e3⟩:=hG.pairs j b hj
    obtain ⟨vv,e4,rel⟩:=Zid kv e1
    have e5:=tup_at j b (kk,vv) hj e4
    rw [Zg h0,e] at e5
    cases e5
    refine ⟨by show 2<=Qi;decide,[keyv,x],.cons ?_ (.cons rel .nil),⟨_,e3,rfl,_,rfl⟩⟩
    rw [Zbz] at e2
    rcases Yh e2 with ⟨i,tt,rfl,rfl⟩ | ⟨y,tt,rfl,rfl⟩
    ·exact ⟨tt,rfl⟩
    ·exact ⟨tt,rfl⟩
   ·rw [ZaN (by rw [hm1];exact hm),hfr b hb] at e
    cases e
 exact ⟨.ref s.heap.objs.size,_,I2,rfl,q _ as _ (hfr _ (Qh _)) sm hl2 (fun a ha=>hfr a (GH (above a ha))) tup_at Zf⟩
def ZpD:TE:=fun _ H Q=>∀ p o,H p=none->o.dict=none->Q (.ref p) (upd H p (.frz o (.tup [])))
theorem ZfD {x1:Nat}{pos:Pos}:PE X (.Tuple [] x1 pos) ZpD:=by
 intro pins s σ H Q I hq
 refine RY (Zs (Za pos pins s σ H (fun xs H1=>xs=[]/\H1=H) I ⟨rfl,rfl⟩) fun us s1 ⟨xs,H1,I1,r,e1,e2⟩=>?_)
 subst e1 e2
 cases r
 refine ⟨QC _,?_⟩
 have hf:H1 s1.heap.objs.size=none:=I1.hok.fresh (Qh _)
 exact ⟨.ref s1.heap.objs.size,_,I1.laid (t':=s1.toks) (o:=.frz _ (.tup [])) (fun b u e=>Qd _ e) (Qh _) ⟨Qs _ rfl,QC _,[],.nil,⟨_,Qs _ rfl,rfl,_,rfl⟩⟩,rfl,hq _ _ hf rfl⟩
theorem ZaC:Yz X (.type "tuple") (fun xs H Q=>∃ p ys,xs=[.ref p]/\SqL X.K H p ys/\∀ l o,H l=none->o.dict=none->Q (.ref l) (upd H l (.frz o (.tup ys)))):=by
 intro pins s σ H xs us Q I r h
 obtain ⟨p,ys,rfl,hq,q⟩:=h
 obtain ⟨u,rfl,rx⟩:=Yt r
 cases rx
 obtain ⟨its,r',pl,hz⟩:=I.list hq
 have hlen:=r'.length
 refine NP pl.isList (fun h' kp=>?_) (by simp only [size_toArray]<;>omega)
 have I1:Inv X pins σ H { s with heap:=h' }:=I.kept (t':=s.toks) kp
 have hg:(h'.push { cls:=.type "tuple",data:=.seq its.toArray }).get? h'.objs.size=some { cls:=.type "tuple",data:=.seq its.toArray }:=Qs _ rfl
 exact ⟨.ref h'.objs.size,_,I1.laid (t':=s.toks) (o:=.frz { cls:=.type "tuple",data:=.seq its.toArray } (.tup ys)) (fun b o e=>Qd _ e) (Qh _) ⟨hg,hz,its,r',⟨_,hg,rfl,_,rfl⟩⟩,rfl,q _ _ (I1.hok.fresh (Qh _)) rfl⟩
end
section
variable {O:KeyOrd}{key:Nat->O.α}{n:Nat}{s:Qe}{cmp:Nat->Nat->(Bool->Qe->Prop)->Qe->Prop}
end
structure FunC (K:Qa)(x qual:Str)(st:Stmt)(f:Addr)(fd:Qm)(c Pl:Addr):Prop where
 ex:∃ (oc:Qb) (od:Option Addr) (kV doc pm:Qb) (an:Option Addr) (ct:Qb) (osl:Array (Option Qb)),
  fd=Pg x qual (Zaq st) (XB st) (Zj st) .none kV doc pm an (.ref c) ct/\K.lookup f=some ⟨oc,od,.func fd,osl⟩/\Rx K (.ref c) qual=true
 kp:GO K (.ref f)=true
 hd:Sy K c Pl=true
section
variable {P:Qk}{w:Qv}{K:Qa}{mg:Str->Option Qb}{base:Heap}
theorem FunC.ok {x qual:Str}{st:Stmt}{f c Pl:Addr}{fd:Qm}{N ps:List Str}{k:Nat}{sp:Sp}(F:FunC K x qual st f fd c Pl)(S:Zm N ps (Zj st))(len:∀ vs H Q E,sp vs H Q E->vs.length=ps.length)
 (hbody:∀ (A:QF) (outer:List Env) (s:Qe) (H:Hp) (vs:List V) (Q:VK) (E:XK),Room k (A.deeper (PB qual (Zj st) s.heap.objs.size f (.ref c)))->sp vs H Q E ->
  ∃ t,PSs (ZQ ZC P w K mg base N qual (Zj st) f (.ref c) A outer s H E).nox (XB st) t/\t { nx:=fun _ H'=>Q .non H',rt:=Q } (start N vs) H):FnOk P w K mg base ZC (k+1) f fd ps sp:=by
 obtain ⟨oc,od,kV,doc,pm,an,ct,osl,rfl,lk,hcd⟩:=F.ex
 refine ZfX lk hcd S len fun A outer s H vs Q E hr hsp=>?_
 obtain ⟨t,h,q⟩:=hbody A outer s H vs Q E hr hsp
 exact ⟨t,h.nox,q⟩
theorem FunC.fn {x qual:Str}{st:Stmt}{f c Pl:Addr}{fd:Qm}(F:FunC K x qual st f fd c Pl):Fun K x qual st f fd:=by
 obtain ⟨oc,od,kV,doc,pm,an,ct,osl,e,lk,hcd⟩:=F.ex
 exact ⟨⟨oc,od,kV,doc,pm,an,.ref c,ct,osl,e,lk,hcd⟩,F.kp⟩
end
theorem Vl {X:Cx}{st:Stmt}:PS X st (fun _ _ _=>False):=fun _ _ _ _ _ _ h=>h.elim
structure TF (H H':Hp):Prop where
 tup:∀ b xs,H b=some (.tup xs)->H' b=some (.tup xs)
 frz:∀ b o u,H b=some (.frz o u)->H' b=some (.frz o u)
theorem TF.trans {H H1 H2:Hp}(a:TF H H1)(b:TF H1 H2):TF H H2:=⟨fun x xs h=>b.tup x xs (a.tup x xs h),fun x o u h=>b.frz x o u (a.frz x o u h)⟩
theorem Same.tf {H H':Hp}(h:Same H H'):TF H H':=⟨fun b _ e=>h b _ e,fun b _ _ e=>h b _ e⟩
theorem Grown.tf {Pl:Addr}{H H':Hp}{ps:Array Qb}(h:Grown Pl H H')(e:H Pl=some (.tbl ps)):TF H H' :=
 ⟨fun b _ y=>h b _ (fun z=>by rw [z,e] at y;cases y) y,fun b _ _ y=>h b _ (fun z=>by rw [z,e] at y;cases y) y⟩
theorem LamAt.tbl {H:Hp}{Pl:Addr}{lpos:Pos}{qual:Str}(h:LamAt H Pl lpos qual):∃ ps,H Pl=some (.tbl ps):=by
 rcases h with h | ⟨_,h,_⟩
 ·exact ⟨_,h⟩
 ·exact ⟨_,h⟩
theorem Zee {H:Hp}{l:Addr}{xs:List V}{o:HO}(h:H l=some (.lst xs)):TF H (upd H l o) :=
 ⟨fun b _ y=>by rw [Zg (fun z=>by rw [z,h] at y;cases y)];exact y,fun b _ _ y=>by rw [Zg (fun z=>by rw [z,h] at y;cases y)];exact y⟩
theorem ZlZ {H:Hp}{l:Addr}{xs:List (Zn×V)}{o:HO}(h:H l=some (.dK xs)):TF H (upd H l o) :=
 ⟨fun b _ y=>by rw [Zg (fun z=>by rw [z,h] at y;cases y)];exact y,fun b _ _ y=>by rw [Zg (fun z=>by rw [z,h] at y;cases y)];exact y⟩
theorem SqT.tf {K:Qa}{H H':Hp}{a:Addr}{xs:List V}(h:SqT K H a xs)(t:TF H H'):SqT K H' a xs:=by
 rcases h with (h | ⟨o,h⟩) | h
 ·exact .inl (.inl (t.tup _ _ h))
 ·exact .inl (.inr ⟨o,t.frz _ _ _ h⟩)
 ·exact .inr h
inductive Nd where
 | bare
 | leaf (m:Int) (ps:List (Str×V))
 | fork (qs:List Nat)
def Nd.parts:Nd->List Nat
 | .fork qs=>qs
 | _=>[]
def Nd.pairs:Nd->List (Str×V)
 | .leaf _ ps=>ps
 | _=>[]
def Nd.hasM (n:Int):Nd->Bool
 | .leaf m _=>decide (m=n)
 | _=>false
def PairT (H:Hp)(ts:List Addr)(ps:List (Str×V)):Prop:=ts.length=ps.length/\∀(i:Nat)(a:Addr)(p:Str×V),ts[i]?=some a->ps[i]?=some p->H a=some (.tup [.str p.1,p.2])
def PairsAt (H:Hp)(t:Addr)(ps:List (Str×V)):Prop:=∃ o ts,H t=some (.frz o (.tup (ts.map V.ref)))/\o.dict=none/\PairT H ts ps
def NodeAt (K:Qa)(H:Hp)(a:Addr):Nd->Prop
 | .bare=>SqT K H a [.str "bare"]
 | .leaf m ps=>∃ t,SqT K H a [.str "leaf",.int m,.ref t]/\PairsAt H t ps
 | .fork qs=>∃ t,SqT K H a [.str "fork",.ref t]/\SqT K H t (qs.map fun q:Nat=>V.int (q:Int))/\qs.length=4
theorem PairT.tf {H H':Hp}{ts:List Addr}{ps:List (Str×V)}(h:PairT H ts ps)(t:TF H H'):PairT H' ts ps:=⟨h.1,fun i a p e1 e2=>t.tup _ _ (h.2 i a p e1 e2)⟩
theorem PairsAt.tf {H H':Hp}{t:Addr}{ps:List (Str×V)}(h:PairsAt H t ps)(f:TF H H'):PairsAt H' t ps:=by
 obtain ⟨o,ts,e,d,p⟩:=h
 exact ⟨o,ts,f.frz _ _ _ e,d,p.tf f⟩
theorem NodeAt.tf {K:Qa}{H H':Hp}{a:Addr}{n:Nd}(h:NodeAt K H a n)(f:TF H H'):NodeAt K H' a n:=by
 cases n with
 | bare=>exact SqT.tf h f
 | leaf m ps=>obtain ⟨t,e,p⟩:=h;exact ⟨t,e.tf f,p.tf f⟩
 | fork qs=>obtain ⟨t,e,p,l⟩:=h;exact ⟨t,e.tf f,p.tf f,l⟩
def UW (K:Qa):Sp:=fun vs H Q _=>∃(a:Addr)(n:Nd),vs=[.ref a]/\NodeAt K H a n/\∀ t H',Same H H'->SqT K H' t (n.parts.map fun q:Nat=>V.int (q:Int))->Q (.ref t) H'
def WB (K:Qa):Sp:=fun vs H Q _=>∃(a:Addr)(n:Nd),vs=[.ref a]/\NodeAt K H a n/\∀ t H',Same H H'->PairsAt H' t n.pairs->Q (.ref t) H'
def VL (K:Qa):Sp:=fun vs H Q _=>∃(a:Addr)(n:Nd)(m:Int),vs=[.ref a,.int m]/\NodeAt K H a n/\Q (.bl (n.hasM m)) H
def Uf (K:Qa):Sp:=fun vs H Q _=>∃(l:Addr)(qs:List Nat),vs=[.ref l]/\H l=some (.lst (qs.map fun q:Nat=>V.int (q:Int)))/\qs.length=4/\∀ a H',Same H H'->NodeAt K H' a (.fork qs)->Q (.ref a) H'
end L2
namespace L2
open PySem
def CompV (J:It)(tc:TT)(te:TE)(σ:St)(D:Addr)(Q:VK)(H1:Hp):Prop :=
 ∃ W : Nat->Nat->List V->Hp->Prop,(∃ m,W 0 m [] (upd H1 D (.lst [])))/\∀ i m ys H2,W i m ys H2 ->
  (J.stop i H2/\Q (.ref D) H2)\/(J.go i H2/\∃ (N:VK) (M:Hp->Prop),(∀ y H4,N y H4->H4 D=some (.lst ys)/\ys.length < Qi/\∃ m',m' < m/\W (i+1) m' (ys++[y]) (upd H4 D (.lst (ys++[y]))))/\(∀ H4,M H4->∃ m',m' < m/\W (i+1) m' ys H4) /\
   ∀ v H3,J.yld i H2 v H3->tc (σ++[some v]) H3 fun b H4=>if b=true then te (σ++[some v]) H4 N else M H4)
def Zms (wi:TI)(tc:TT)(te:TE):TE:=fun σ H Q=>wi σ H fun J H1=>∀ D,H1 D=none->CompV J tc te σ D Q H1
theorem CompV.n {J:It}{tc:TT}{te:TE}{σ:St}{D:Addr}{Q:VK}{H:Hp}{n:Nat}(hn:σ.length=n)(h:CompV J tc te σ D Q H):Zam J (Vx n) tc te 1 (fun σ σ'=>∃ w,σ'=σ++[w]) σ D Q H:=by
 obtain ⟨W,w0,t⟩:=h
 refine ⟨W,w0,fun i m ys H2 w2=>(t i m ys H2 w2).imp (fun z=>z) fun ⟨go,N,M,hN,hM,hy⟩=>⟨go,N,M,hN,hM,fun ws v H3 hl y=>?_⟩⟩
 match ws,hl with
 | [w],_ =>
  show (∃ w',(σ++[w]).set n (some v)=σ++[w'])/\tc ((σ++[w]).set n (some v)) H3 _
  rw [set1 hn]
  exact ⟨⟨_,rfl⟩,hy v H3 y⟩
section
variable {X:Cx}{elt iter cnd:Expr}{x:Str}{px pos:Pos}{scope:Scope}{wi:TI}{te:TE}{tc:TT}
theorem UL {i:Nat}{y:Str}{py spos:Pos}(O:CompOk X scope x)(hc:X.calm=true)(hN:X.N.Nodup)(hiN:X.N[i]?=some y)(hy:Loc X.env.scope y)(hi:PI X (.Name x px) iter wi)(hcn:∀ cl C s₀ H₀ fp,PT (Zen X scope x cl C s₀ H₀ fp) cnd tc)(he:∀ cl C s₀ H₀ fp,PE (Zen X scope x cl C s₀ H₀ fp) elt te)
 (hsw:To (.ListComp elt [⟨.Name x px,iter,[cnd],0⟩] scope pos) (some (.Name y py)) spos.line X.env=pure true) (hf:X.fn y=true\/X.env.scope.names.lookup y=some .local:=by first | exact .inl rfl | exact .inr rfl | assumption)
 (hs:∀ v,GW iter X.env v=pure v:=by intro _;rfl):PS X (.Assign [.Name y py] (.ListComp elt [⟨.Name x px,iter,[cnd],0⟩] scope pos) spos) (ZgH (Zms wi tc te) (Vx i)) :=
 ZeR (CW:=fun J σ D Q H=>CompV J tc te σ D Q H) O hc hN hiN hy hi (fun _ _ _ _ _ hl h=>h.n hl) ok1 (Zip O) (fun cl C s₀ H₀ fp=>.inr ⟨_,rfl,hcn cl C s₀ H₀ fp⟩) he hsw hf hs
end
theorem Zix {K:Qa}{a:Addr}{xs:List V}{tc:TT}{te:TE}{σ:St}{D:Addr}{Q:VK}{H:Hp}(hn:xs.length<=Qi)(Pv:Nat->List V->Hp->Prop)(h0:Pv 0 [] (upd H D (.lst [])))
 (hl:∀ i ys H,Pv i ys H->ys.length<=i/\SqT K H a xs)
 (hs:∀ i x ys H,xs[i]?=some x->Pv i ys H->tc (σ++[some x]) H fun b H3=>if b=true then te (σ++[some x]) H3 fun y H4=>H4 D=some (.lst ys)/\Pv (i+1) (ys++[y]) (upd H4 D (.lst (ys++[y]))) else Pv (i+1) ys H3) (hd:∀ ys H,Pv xs.length ys H->Q (.ref D) H):CompV (Itt K a) tc te σ D Q H:=by
 refine ⟨fun i m ys H=>m=xs.length - i/\i<=xs.length/\Pv i ys H,⟨xs.length,by simp,QC _,h0⟩,?_⟩
 rintro i m ys H2 ⟨rfl,hi,p⟩
 obtain ⟨hlen,q⟩:=hl i ys _ p
 by_cases hlt:i < xs.length
 ·refine .inr ⟨⟨xs,xs[i],q,by simp [hlt]⟩,_,_,fun y H4 (q:H4 D=some (.lst ys)/\Pv (i+1) (ys++[y]) (upd H4 D (.lst (ys++[y]))))=>⟨q.1,by omega,xs.length - (i+1),by omega,rfl,hlt,q.2⟩,fun H4 (q:Pv (i+1) ys H4)=>⟨xs.length - (i+1),by omega,rfl,hlt,q⟩,fun v H3 y=>?_⟩
  obtain ⟨e,y⟩:=y
  subst e
  exact hs i v ys _ (y xs q) p
 ·have e:i=xs.length:=by omega
  subst e
  exact .inl ⟨⟨xs,q,Qh _⟩,hd ys H2 p⟩
theorem Zbu {K:Qa}{a:Addr}{xs:List V}{tc:TT}{te:TE}{σ:St}{D:Addr}{Q:VK}{H:Hp}(hn:xs.length<=Qi)(Pv:Nat->List V->Hp->Prop)(h0:Pv 0 [] (upd H D (.lst [])))
 (hl:∀ i ys H,Pv i ys H->ys.length<=i/\SqL K H a xs)
 (hs:∀ i x ys H,xs[i]?=some x->Pv i ys H->tc (σ++[some x]) H fun b H3=>if b=true then te (σ++[some x]) H3 fun y H4=>H4 D=some (.lst ys)/\Pv (i+1) (ys++[y]) (upd H4 D (.lst (ys++[y]))) else Pv (i+1) ys H3) (hd:∀ ys H,Pv xs.length ys H->Q (.ref D) H):CompV (Itl K a) tc te σ D Q H:=by
 refine ⟨fun i m ys H=>m=xs.length - i/\i<=xs.length/\Pv i ys H,⟨xs.length,by simp,QC _,h0⟩,?_⟩
 rintro i m ys H2 ⟨rfl,hi,p⟩
 obtain ⟨hlen,q⟩:=hl i ys _ p
 by_cases hlt:i < xs.length
 ·refine .inr ⟨⟨xs,xs[i],q,by simp [hlt]⟩,_,_,fun y H4 (q:H4 D=some (.lst ys)/\Pv (i+1) (ys++[y]) (upd H4 D (.lst (ys++[y]))))=>⟨q.1,by omega,xs.length - (i+1),by omega,rfl,hlt,q.2⟩,fun H4 (q:Pv (i+1) ys H4)=>⟨xs.length - (i+1),by omega,rfl,hlt,q⟩,fun v H3 y=>?_⟩
  obtain ⟨e,y⟩:=y
  subst e
  exact hs i v ys _ (y xs q) p
 ·have e:i=xs.length:=by omega
  subst e
  exact .inl ⟨⟨xs,q,Qh _⟩,hd ys H2 p⟩
end L2
namespace L2
open PySem PySem.Spec PyProof.Rows
theorem ok2:∀ σ σ':St,(∃ wa wb,σ'=σ++[wa,wb])->∃ ws:St,ws.length=[xa,xb].length/\σ'=σ++ws:=fun _ _ ⟨wa,wb,e⟩=>⟨[wa,wb],rfl,e⟩
section
variable {X:Cx}{elt iter tg:Expr}{xa xb:Str}{pos:Pos}{scope:Scope}{wi:TI}{te:TE}{g:TG}
end
def CompVT (J:It)(g:TG)(tc:TT)(te:TE)(σ:St)(D:Addr)(Q:VK)(H1:Hp):Prop :=
 ∃ W : Nat->Nat->List V->Hp->Prop,(∃ m,W 0 m [] (upd H1 D (.lst [])))/\∀ i m ys H2,W i m ys H2 ->
  (J.stop i H2/\Q (.ref D) H2)\/(J.go i H2/\∃ (N:VK) (M:Hp->Prop),(∀ y H4,N y H4->H4 D=some (.lst ys)/\ys.length < Qi/\∃ m',m' < m/\W (i+1) m' (ys++[y]) (upd H4 D (.lst (ys++[y]))))/\(∀ H4,M H4->∃ m',m' < m/\W (i+1) m' ys H4) /\
   ∀ wa wb v H3,J.yld i H2 v H3->g v (σ++[wa,wb]) H3 fun σ' H'=>(∃ wa wb,σ'=σ++[wa,wb])/\tc σ' H' fun b H4=>if b=true then te σ' H4 N else M H4)
def ZlH (wi:TI)(g:TG)(tc:TT)(te:TE):TE:=fun σ H Q=>wi σ H fun J H1=>∀ D,H1 D=none->CompVT J g tc te σ D Q H1
theorem CompVT.n {J:It}{g:TG}{tc:TT}{te:TE}{σ:St}{D:Addr}{Q:VK}{H:Hp}(h:CompVT J g tc te σ D Q H):Zam J g tc te 2 (fun σ σ'=>∃ wa wb,σ'=σ++[wa,wb]) σ D Q H:=by
 obtain ⟨W,w0,t⟩:=h
 refine ⟨W,w0,fun i m ys H2 w2=>(t i m ys H2 w2).imp (fun z=>z) fun ⟨go,N,M,hN,hM,hy⟩=>⟨go,N,M,hN,hM,fun ws v H3 hl y=>?_⟩⟩
 match ws,hl with
 | [wa,wb],_=>exact hy wa wb v H3 y
section
variable {X:Cx}{elt iter tg cnd:Expr}{xa xb:Str}{pos:Pos}{scope:Scope}{wi:TI}{te:TE}{tc:TT}{g:TG}
theorem ZhE (O:CompOkT X scope xa xb)(hc:X.calm=true)(hi:PI X tg iter wi)(hg:∀ cl C s₀ H₀ fp,PG (Zck X scope xa xb cl C s₀ H₀ fp) tg g)(hcn:∀ cl C s₀ H₀ fp,PT (Zck X scope xa xb cl C s₀ H₀ fp) cnd tc)(he:∀ cl C s₀ H₀ fp,PE (Zck X scope xa xb cl C s₀ H₀ fp) elt te)
 (hs:∀ v,GW iter X.env v=pure v:=by intro _;rfl):PE X (.ListComp elt [⟨tg,iter,[cnd],0⟩] scope pos) (ZlH wi g tc te) :=
 ZdF (CW:=fun J σ D Q H=>CompVT J g tc te σ D Q H) O hc hi (fun _ _ _ _ _ _ h=>h.n) ok2 hg (fun cl C s₀ H₀ fp=>.inr ⟨_,rfl,hcn cl C s₀ H₀ fp⟩) he hs
end
end L2
namespace L2
open PySem
def YR:HO->Bool
 | .tup _=>false
 | .frz _ _=>false
 | .own _=>false
 | .met _ _=>false
 | .rng _ _=>false
 | .ext _=>false
 | _=>true
def UB (H h:Hp):Hp:=fun b=>match h b with
 | some o=>if YR o=true then none else H b
 | none=>H b
def one (p:Addr)(o:HO):Hp:=fun b=>if b=p then some o else none
theorem one_some {p b:Addr}{o u:HO}:one p o b=some u↔b=p/\o=u:=by
 unfold one
 by_cases h:b=p
 ·rw [if_pos h];exact ⟨fun z=>⟨h,QG z⟩,fun z=>by rw [z.2]⟩
 ·rw [if_neg h];exact ⟨fun z=>(by cases z),fun z=>absurd z.1 h⟩
abbrev Yw:=Addr->Hp->Prop
abbrev Rs:=List (Addr×Yw)
def Sep:Rs->Hp->Prop
 | [],_=>True
 | (a,R)::Δ,H=>∃ h,Same h H/\R a h/\Sep Δ (UB H h)
theorem cut_some {H h:Hp}{b:Addr}{o:HO}:UB H h b=some o↔H b=some o/\∀ u,h b=some u->YR u=false:=by
 unfold UB
 cases e:h b with
 | none=>exact ⟨fun z=>⟨z,fun u q=>by cases q⟩,fun z=>z.1⟩
 | some v =>
  cases m:YR v with
  | true=>show (if YR v=true then none else H b)=some o↔_;rw [if_pos m];exact ⟨fun z=>(by cases z),fun z=>(by have:=z.2 v rfl;rw [m] at this;cases this)⟩
  | false=>show (if YR v=true then none else H b)=some o↔_;rw [if_neg (by rw [m];decide)];exact ⟨fun z=>⟨z,fun u q=>(by cases q;exact m)⟩,fun z=>z.1⟩
theorem Zbn {H h:Hp}:Same (UB H h) H:=fun b o e=>(cut_some.mp e).1
theorem Zea {H H' h:Hp}(s:Same H H'):Same (UB H h) (UB H' h):=fun b o e=>let ⟨x,y⟩:=cut_some.mp e;cut_some.mpr ⟨s _ _ x,y⟩
theorem Sep.mono:∀{Δ:Rs}{H H':Hp},Sep Δ H->Same H H'->Sep Δ H'
 | [],_,_,_,_=>trivial
 | (_,_)::_,_,_,⟨h,l,r,S⟩,s=>⟨h,l.trans s,r,S.mono (Zea s)⟩
theorem Sep.swap {a b:Addr}{R T:Yw}{Δ:Rs}{H:Hp}(S:Sep ((a,R)::(b,T)::Δ) H):Sep ((b,T)::(a,R)::Δ) H:=by
 obtain ⟨h,l,r,g,m,t,S⟩:=S
 refine ⟨g,m.trans Zbn,t,h,fun c o e=>cut_some.mpr ⟨l _ _ e,fun u q=>?_⟩,r,S.mono fun c o e=>?_⟩
 ·obtain ⟨q1,q2⟩:=cut_some.mp (m _ _ q)
  have e2:=l _ _ e
  rw [q1] at e2;cases e2
  exact q2 _ e
 ·obtain ⟨e1,e2⟩:=cut_some.mp e
  obtain ⟨e3,e4⟩:=cut_some.mp e1
  exact cut_some.mpr ⟨cut_some.mpr ⟨e3,e2⟩,e4⟩
theorem Sep.tail {a:Addr}{R:Yw}{Δ:Rs}{H:Hp}(S:Sep ((a,R)::Δ) H):Sep Δ H:=by
 obtain ⟨h,l,r,S⟩:=S
 exact S.mono Zbn
class Pull (a:Addr) (Δ:Rs) (R:outParam Yw) (Δ':outParam Rs):Prop where
 out:∀ {H},Sep Δ H->Sep ((a,R)::Δ') H
instance (priority:=1000) Pull.here {a:Addr} {R:Yw} {Δ:Rs}:Pull a ((a,R)::Δ) R Δ:=⟨fun S=>S⟩
instance (priority:=900) Pull.there {a b:Addr} {R T:Yw} {Δ Δ':Rs} [P:Pull a Δ R Δ']:Pull a ((b,T)::Δ) R ((b,T)::Δ') :=
 ⟨fun S=>by
  obtain ⟨h,l,r,S⟩:=S
  exact Sep.swap ⟨h,l,r,P.out S⟩⟩
theorem Sep.pull {Δ Δ':Rs}{H:Hp}{R:Yw}(S:Sep Δ H)(a:Addr)[P:Pull a Δ R Δ']:Sep ((a,R)::Δ') H:=P.out S
theorem Sep.drop {Δ Δ':Rs}{H:Hp}{R:Yw}(S:Sep Δ H)(a:Addr)[P:Pull a Δ R Δ']:Sep Δ' H:=(P.out S).tail
class Up (R:Yw):Prop where
 up:∀ {a:Addr} {H H':Hp},R a H->Same H H'->R a H'
theorem Sep.get {Δ Δ':Rs}{H:Hp}{R:Yw}(S:Sep Δ H)(a:Addr)[P:Pull a Δ R Δ'][U:Up R]:R a H:=by
 obtain ⟨h,l,r,_⟩:=P.out S
 exact U.up r l
def Pt (o:HO):Yw:=fun a h=>h a=some o
abbrev Yj (xs:List V):Yw:=Pt (.lst xs)
abbrev Xu (kv:List (Zn×V)):Yw:=Pt (.dK kv)
instance {o:HO}:Up (Pt o):=⟨fun h s=>s _ _ h⟩
theorem Sep.new {Δ:Rs}{H:Hp}(S:Sep Δ H){p:Addr}(hp:H p=none)(o:HO):Sep ((p,Pt o)::Δ) (upd H p o):=by
 refine ⟨one p o,fun b u e=>?_,one_some.mpr ⟨rfl,rfl⟩,S.mono fun b u e=>?_⟩
 ·obtain ⟨rfl,rfl⟩:=one_some.mp e;exact Zf
 ·have hb:=Zt e hp
  exact cut_some.mpr ⟨by rw [Zg hb];exact e,fun v q=>absurd (one_some.mp q).1 hb⟩
theorem Sep.made {Δ:Rs}{H H':Hp}(S:Sep Δ H)(s:Same H H'){p:Addr}{o:HO}(hp:H p=none)(e:H' p=some o):Sep ((p,Pt o)::Δ) H':=by
 refine ⟨one p o,fun b u q=>?_,one_some.mpr ⟨rfl,rfl⟩,S.mono fun b u q=>?_⟩
 ·obtain ⟨rfl,rfl⟩:=one_some.mp q;exact e
 ·have hb:=Zt q hp
  exact cut_some.mpr ⟨s _ _ q,fun v q=>absurd (one_some.mp q).1 hb⟩
theorem Sep.put {Δ Δ':Rs}{H:Hp}{o:HO}(S:Sep Δ H)(a:Addr)(o':HO)[P:Pull a Δ (Pt o) Δ'](m:YR o=true:=by rfl):Sep ((a,Pt o')::Δ') (upd H a o'):=by
 obtain ⟨h,l,r,S⟩:=P.out S
 refine ⟨one a o',fun b u q=>?_,one_some.mpr ⟨rfl,rfl⟩,S.mono fun b u q=>?_⟩
 ·obtain ⟨rfl,rfl⟩:=one_some.mp q;exact Zf
 ·obtain ⟨q1,q2⟩:=cut_some.mp q
  have hb:b≠a:=fun z=>by
   have:=q2 o (by rw [z];exact r)
   rw [m] at this;cases this
  exact cut_some.mpr ⟨by rw [Zg hb];exact q1,fun v q=>absurd (one_some.mp q).1 hb⟩
theorem Sep.say {Δ Δ':Rs}{H:Hp}{R:Yw}(S:Sep Δ H)(a:Addr)(T:Yw)[P:Pull a Δ R Δ'](f:∀ h,R a h->T a h):Sep ((a,T)::Δ') H:=by
 obtain ⟨h,l,r,S⟩:=P.out S
 exact ⟨h,l,f h r,S⟩
theorem Sep.call {Δ:Rs}{H H':Hp}{a:Addr}{R T:Yw}{L:List Addr}(S:Sep ((a,R)::Δ) H)(k:∀ b o,b ∉ L->H b=some o->H' b=some o)
 (f:∀ h,Same h H->R a h->(∀ b∈L,∃ o,h b=some o/\YR o=true)/\∃ h',Same h' H'/\T a h'/\∀ b o,h' b=some o->YR o=true->b∈L\/H b=none\/∃ u,h b=some u/\YR u=true):Sep ((a,T)::Δ) H':=by
 obtain ⟨h,l,r,S⟩:=S
 obtain ⟨f1,h',l',t,f2⟩:=f h l r
 refine ⟨h',l',t,S.mono fun b o e=>?_⟩
 obtain ⟨e1,e2⟩:=cut_some.mp e
 have hb:b ∉ L:=fun z=>by
  obtain ⟨u,q1,q2⟩:=f1 b z
  rw [e2 u q1] at q2;cases q2
 refine cut_some.mpr ⟨k b o hb e1,fun u q=>?_⟩
 cases m:YR u with
 | false=>rfl
 | true =>
  rcases f2 b u q m with z | z | ⟨v,z1,z2⟩
  ·exact absurd z hb
  ·rw [e1] at z;cases z
  ·rw [e2 v z1] at z2;cases z2
abbrev Bx (n:Nat):Yw:=fun a h=>BoxAt h a n
instance {n:Nat}:Up (Bx n):=⟨fun h s=>h.same s⟩
theorem Sep.box {Δ:Rs}{H H':Hp}{p:Addr}{n m:Nat}(S:Sep ((p,Bx n)::Δ) H)(k:Kp p H H')(B:BoxAt H' p m):Sep ((p,Bx m)::Δ) H':=by
 refine S.call (L:=[p]) (fun b o nb e=>k b o (fun z=>nb (by simp [z])) e) fun h l r=>⟨fun b hb=>?_,?_⟩
 ·rw [mem_singleton.mp hb]
  obtain ⟨x,y,z,e,_⟩:=r
  exact ⟨_,e,rfl⟩
 ·obtain ⟨x,y,z,e,w⟩:=B
  refine ⟨one p (.lst [.int x,.int y,.int z]),fun b u q=>?_,⟨x,y,z,one_some.mpr ⟨rfl,rfl⟩,w⟩,fun b o q _=>.inl (by simp [(one_some.mp q).1])⟩
  obtain ⟨rfl,rfl⟩:=one_some.mp q;exact e
def ZeV (M:Int):Sp:=fun vs H Q _=>∃(p:Addr)(n:Nat)(m:Int)(Δ:Rs),vs=[.ref p,.int m]/\Sep ((p,Bx n)::Δ) H/\n<=1000000/\0 < m/\m < M/\∀(r:Int)(H':Hp),0<=r->r < m->Sep ((p,Bx (n+1))::Δ) H'->Q (.int r) H'
theorem ZnE {M:Int}{vs:List V}{H:Hp}{Q:VK}{E:XK}(h:ZeV M vs H Q E):Zbj M vs H Q E:=by
 obtain ⟨p,n,m,Δ,e,S,h1,h2,h3,q⟩:=h
 exact ⟨p,n,m,e,S.get p,h1,h2,h3,fun r H' a b B k=>q r H' a b (S.box k B)⟩
theorem Zgt {x:V}{u:Qb}(h:ZgM u=some x):RelV x u:=by
 cases u<;>first | (cases h;exact rfl) | (cases h;exact ⟨_,rfl⟩) | cases h
theorem Zaz:∀{xs:List V}{us:List Qb},us.map ZgM=xs.map some->Vals xs us
 | [],[],_=>.nil
 | [],_::_,h=>by cases h
 | _::_,[],h=>by cases h
 | x::xs,u::us,h=>by
  rw [map_cons,map_cons,List.cons.injEq] at h
  exact .cons (Zgt h.1) (Zaz h.2)
def Zdn (K:Qa)(a:Addr)(vs:List V):Bool:=match K.lookup a with
 | some ⟨.type "tuple",_,.seq its _,_⟩=>decide (its.size<=100000)&&decide (its.toList.map ZgM=vs.map some)
 | _=>false
theorem ZeG {K:Qa}{a:Addr}{vs:List V}(h:Zdn K a vs=true)(H:Hp):SqT K H a vs:=by
 unfold Zdn at h
 split at h
 ·rename_i its n _ hk
  simp only [QL,decide_eq_true_eq] at h
  exact .inr ⟨_,its,n,hk,rfl,rfl,Qn h.1 (by decide),Zaz h.2⟩
 ·cases h
structure ZY (mg:Str->Option Qb):Prop where
 len:mg "len"=none
 abs:mg "abs"=none
 int:mg "int"=none
 range:mg "range"=none
 min:mg "min"=none
 max:mg "max"=none
 repr:mg "repr"=none
 enumerate:mg "enumerate"=none
 ord:mg "ord"=none
 list:mg "list"=none
 tuple:mg "tuple"=none
 dict:mg "dict"=none
 sorted:mg "sorted"=none
 sum:mg "sum"=none
 all:mg "all"=none
 any:mg "any"=none
 divmod:mg "divmod"=none
 str:mg "str"=none
 isinstance:mg "isinstance"=none
 set:mg "set"=none
 zip:mg "zip"=none
 reversed:mg "reversed"=none
 bool:mg "bool"=none
abbrev DTk (P:Qk)(w:Qv)(K:Qa)(mg:Str->Option Qb)(base:Heap)(k:Nat):Prop:=Def P w K mg base k "_law_take" ["_law_box_here","_law_many"] (ZeV 4611686018427387904)
theorem FnOk.conv {P:Qk}{w:Qv}{K:Qa}{mg:Str->Option Qb}{base:Heap}{k:Nat}{f:Addr}{fd:Qm}{ps:List Str}{sp sp':Sp}(F:FnOk P w K mg base ZC k f fd ps sp)(h:∀ vs H Q E,sp' vs H Q E->sp vs H Q E):FnOk P w K mg base ZC k f fd ps sp' :=
 ⟨fun vs H Q E z=>F.len vs H Q E (h vs H Q E z),fun A outer s H args us vs Q E hr he hb hv z=>F.run A outer s H args us vs Q E hr he hb hv (h vs H Q E z)⟩
theorem Def.conv {P:Qk}{w:Qv}{K:Qa}{mg:Str->Option Qb}{base:Heap}{k:Nat}{x:Str}{ps:List Str}{sp sp':Sp}(D:Def P w K mg base k x ps sp)(h:∀ vs H Q E,sp' vs H Q E->sp vs H Q E):Def P w K mg base k x ps sp' :=
 let ⟨f,fd,F,b,kp,m⟩:=D;⟨f,fd,F.conv h,b,kp,m⟩
theorem ZhY {α:Type}{xs:List α}{r:Int}{v:α}(h0:0<=r)(h:xs[r.toNat]?=some v):YH xs r=some v:=by
 have z:YH xs ((r.toNat:Nat):Int)=some v:=ZE h
 rwa [show ((r.toNat:Nat):Int)=r by omega] at z
theorem Xl {n m:Nat}(h:n<=m)(hm:m<=100000:=by decide):n<=sizeLine:=Qn (Qn h hm) (by decide)
theorem YG {n m:Nat}(h:n<=m)(hm:m<=100000:=by decide):n < sizeLine:=QO (Qn h hm) (by decide)
def DefM (P:Qk)(w:Qv)(K:Qa)(mg:Str->Option Qb)(base:Heap)(k:Nat)(C:Addr)(m:Str)(ps:List Str)(sp:Sp):Prop:=∃ f fd,FnOk P w K mg base ZC k f fd ps sp/\Binds K fd ps []/\VR K C m f
theorem DefM.mono {P:Qk}{w:Qv}{K:Qa}{mg:Str->Option Qb}{base:Heap}{j k:Nat}{C:Addr}{m:Str}{ps:List Str}{sp:Sp}(D:DefM P w K mg base j C m ps sp)(h:j<=k):DefM P w K mg base k C m ps sp :=
 let ⟨f,fd,F,b,q⟩:=D;⟨f,fd,F.mono h,b,q⟩
section
variable {X:Cx}{k:Nat}{C:Addr}{m:Str}{ps:List Str}{sp:Sp}{pos apos:Pos}{o e:Expr}{es:List Expr}{ta:TE}{t:TA}
theorem ZH {pl:Sem Bool}(D:DefM X.prog X.w X.K X.mg X.base k C m ps sp)(c:Cls X.K C)(hr:Room k X.A)(he:PE X o ta)(ha:PA X (e::es) t)
 (hst:QE (e::es) X.env=(false,eval e X.env)::QE es X.env:=by rfl) (hpl:(Jg pos (QE es X.env)).any (·.1)=false:=by rfl)
 (ht:eval (.Call (.Attribute o m apos) (e::es) [] pos) X.env=(do
  let ov <- eval o X.env
  TV apos.atName
  let (f,first) <- Pd [ov] (Tq ov m pl)
  Sq pos f first (Jg pos (QE (e::es) X.env)) (PQ pos (Jk [] X.env))):=by rfl) :
 PE X (.Call (.Attribute o m apos) (e::es) [] pos) (Zdl C m sp [] E0 ta t):=by
 obtain ⟨f,fd,F,b,q⟩:=D
 exact ZkX he c q F hr b .nil Zde ha hst hpl ht
end
def Kq (S:List Addr)(H H':Hp):Prop:=∀ b o,b ∉ S->H b=some o->H' b=some o
theorem Kq.trans {S:List Addr}{H H1 H2:Hp}(a:Kq S H H1)(b:Kq S H1 H2):Kq S H H2:=fun x o n h=>b x o n (a x o n h)
theorem Kq.sub {S S':List Addr}{H H':Hp}(a:Kq S H H')(h:∀ b∈S,b∈S'):Kq S' H H':=fun x o n e=>a x o (fun z=>n (h x z)) e
theorem Same.kq {S:List Addr}{H H':Hp}(h:Same H H'):Kq S H H':=fun b o _ e=>h b o e
theorem ZaZ {H:Hp}{a:Addr}{o:HO}:Kq [a] H (upd H a o):=fun b u n e=>by rw [Zg (fun z=>n (by simp [z]))];exact e
theorem tn:¬ (("nodes":Str)="tables"):=by decide +kernel
def ZaF (ln dt:Addr):List (Str×V):=Xo "tables" (.ref dt) (Xo "nodes" (.ref ln) [])
theorem XT (ln dt:Addr):(ZaF ln dt).lookup ("nodes":Str)=some (.ref ln):=by unfold ZaF;rw [YY,if_neg tn,YY,if_pos rfl]
theorem Zhs (ln dt:Addr):(ZaF ln dt).lookup ("tables":Str)=some (.ref dt):=by unfold ZaF;rw [YY,if_pos rfl]
theorem ZW (ln dt:Addr){m:Str}(h1:¬ m="tables")(h2:¬ m="nodes"):(ZaF ln dt).lookup m=none:=by
 unfold ZaF
 rw [YY,if_neg h1,YY,if_neg h2]
 rfl
structure StoreAt (K:Qa)(C st ln dt:Addr)(H:Hp)(nds:List Nd)(tabs:List (Zn×V)):Prop where
 ob:∃ dx,H st=some (.ins C dx (ZaF ln dt))
 nl:∃ as:List Addr,H ln=some (.lst (as.map V.ref))/\as.length=nds.length/\∀ (i:Nat) (a:Addr) (n:Nd),as[i]?=some a->nds[i]?=some n->NodeAt K H a n
 tb:H dt=some (.dK tabs)
theorem StoreAt.keep {K:Qa}{C st ln dt:Addr}{H H':Hp}{nds:List Nd}{tabs:List (Zn×V)}(S:StoreAt K C st ln dt H nds tabs)(h:Same H H'):StoreAt K C st ln dt H' nds tabs:=by
 obtain ⟨⟨dx,e⟩,⟨as,e2,l,hn⟩,e3⟩:=S
 exact ⟨⟨dx,h _ _ e⟩,⟨as,h _ _ e2,l,fun i a n x y=>(hn i a n x y).tf h.tf⟩,h _ _ e3⟩
theorem StoreAt.kq {K:Qa}{C st ln dt:Addr}{H H':Hp}{nds:List Nd}{tabs:List (Zn×V)}{L:List Addr}(S:StoreAt K C st ln dt H nds tabs)(k:Kq L H H')(t:TF H H')(h1:st ∉ L)(h2:ln ∉ L)(h3:dt ∉ L):StoreAt K C st ln dt H' nds tabs:=by
 obtain ⟨⟨dx,e⟩,⟨as,e2,l,hn⟩,e3⟩:=S
 exact ⟨⟨dx,k _ _ h1 e⟩,⟨as,k _ _ h2 e2,l,fun i a n x y=>(hn i a n x y).tf t⟩,k _ _ h3 e3⟩
theorem Grown.kq {Pl:Addr}{H H':Hp}(g:Grown Pl H H'):Kq [Pl] H H':=fun b o n e=>g b o (fun z=>n (by simp [z])) e
theorem LamAt.kq {H H':Hp}{Pl:Addr}{lpos:Pos}{q:Str}{L:List Addr}(h:LamAt H Pl lpos q)(k:Kq L H H')(hL:∀ b∈L,∃ xs,H b=some (.lst xs)):LamAt H' Pl lpos q:=by
 rcases h with h | ⟨c,h,h2⟩
 ·exact .inl (k _ _ (fun z=>by obtain ⟨_,e⟩:=hL _ z;rw [h] at e;cases e) h)
 ·exact .inr ⟨c,k _ _ (fun z=>by obtain ⟨_,e⟩:=hL _ z;rw [h] at e;cases e) h,k _ _ (fun z=>by obtain ⟨_,e⟩:=hL _ z;rw [h2] at e;cases e) h2⟩
theorem Zca {α:Type}{xs:List α}{r:Int}(h0:0<=r)(h1:r < (xs.length:Int)):∃ v,YH xs r=some v/\v∈xs:=by
 have hk:r.toNat < xs.length:=by omega
 have z:YH xs ((r.toNat:Nat):Int)=some xs[r.toNat]:=ZE (getElem?_eq_getElem hk)
 have e:((r.toNat:Nat):Int)=r:=by omega
 rw [e] at z
 exact ⟨_,z,PF hk⟩
def IsVal:V->Prop
 | .int i=>i.natAbs < 10 ^ 30
 | .str x=>x.length<=40/\x.cps.toList.all VH=true
 | _=>False
def Zdv:V->Bool
 | .int i=>decide (i.natAbs < 10 ^ 30)
 | .str x=>decide (x.length<=40)&&x.cps.toList.all VH
 | _=>false
theorem ZaD {v:V}(h:Zdv v=true):IsVal v:=by
 cases v with
 | int i=>exact of_decide_eq_true (p:=i.natAbs < 10 ^ 30) h
 | str x =>
  have h':(decide (x.length<=40)&&x.cps.toList.all VH)=true:=h
  simp only [QL,decide_eq_true_eq] at h'
  exact h'
 | _=>cases h
theorem IsVal.b31 {i:Int}(h:IsVal (.int i)):i.natAbs<=10 ^ 31:=Qn (GH (show i.natAbs < 10 ^ 30 from h)) (by decide)
def ZfC:Sp:=fun vs H Q _=>∃(p:Addr)(n:Nat),vs=[.ref p]/\BoxAt H p n/\n<=900000/\∀(v:V)(H':Hp),IsVal v->BoxAt H' p (n+50)->Kp p H H'->Q v H'
def ZkA:List Stmt->Str
 | .Assign _ (.Constant (.str x) _ _) _::_=>x
 | _::r=>ZkA r
 | []=>Str.empty
theorem ZkZ {X:Cx}{K:Qa}(hK:X.K=K)(hc:X.calm=true){xa xb:Str}{pa pb tp:Pos}{j:Nat}{ga gb:TG}(ha:PG X (.Name xa pa) ga)(hb:PG X (.Name xb pb) gb):PG X (.Tuple [.Name xa pa,.Name xb pb] j tp) (gTup K 2 (Zgr ga (Zgr gb gNil))):=by
 subst hK
 exact Xz hc (ZF ha (ZF hb Xb))
theorem FnOk.ex {P:Qk}{w:Qv}{K:Qa}{mg:Str->Option Qb}{base:Heap}{k:Nat}{f:Addr}{fd:Qm}{ps:List Str}{ok:List Str->Prop}{sp:List Str->Sp}(F:∀ NS,ok NS->FnOk P w K mg base ZC k f fd ps (sp NS)) :
 FnOk P w K mg base ZC k f fd ps (fun vs H Q E=>∃ NS,ok NS/\sp NS vs H Q E) :=
 ⟨fun vs H Q E ⟨NS,N,h⟩=>(F NS N).len vs H Q E h,fun A outer s H args us vs Q E hr he hb hv ⟨NS,N,h⟩=>(F NS N).run A outer s H args us vs Q E hr he hb hv h⟩
def Zcs (P:Qk)(w:Qv)(K:Qa)(mg:Str->Option Qb)(base:Heap)(k:Nat)(C:Addr)(x:Str)(ps:List Str)(sp:Sp):Prop:=∃ f fd,FnOk P w K mg base ZC k f fd ps sp/\Binds K fd ps []/\Mk K C f/\mg x=some (.ref C)
theorem Zdr {X:Cx}{k:Nat}{C:Addr}{x:Str}{ps:List Str}{sp:Sp}{p pos:Pos}(D:Zcs X.prog X.w X.K X.mg X.base k C x ps sp)(hr:Room (k+1) X.A)(hg:Gl X x:=by rfl)(hdb:(x == ("__debug__":Str))=false:=by decide) :
 PE X (.Call (.Name x p) [] [] pos) (Zkg C sp [] E0 WP):=by
 obtain ⟨f,fd,F,b,M,m⟩:=D
 exact ZjW M F hr hg m b .nil Zde hdb
theorem SqL.obj {K:Qa}{H:Hp}{a:Addr}{xs:List V}(h:SqL K H a xs):(∀ H',SqL K H' a xs)\/∃ o,H a=some o/\(∀ tb,o≠.tbl tb)/\∀ H',H' a=some o->SqL K H' a xs:=by
 rcases h with (h | ⟨o,h⟩) | h
 ·exact .inr ⟨_,h,(fun tb z=>by cases z),fun H' e=>.inl (.inl e)⟩
 ·exact .inr ⟨_,h,(fun tb z=>by cases z),fun H' e=>.inl (.inr ⟨o,e⟩)⟩
 ·exact .inl fun H'=>.inr h
theorem ZcB {H H':Hp}{a:Addr}(s:Same H H')(h:H' a=none):H a=none:=by
 cases e:H a with
 | none=>rfl
 | some o=>rw [s _ _ e] at h;cases h
end L2
namespace L2
open PySem PySem.Spec PyProof.Rows
theorem Sep.nest {a:Addr}{Δ:Rs}:∀{Γ:Rs}{H h:Hp},Same h H->Sep Γ h->Sep Δ (UB H h)->Sep (Γ++Δ) H
 | [],_,_,_,_,S=>S.mono Zbn
 | (b,T)::Γ,H,h,l,⟨g,m,t,G⟩,S=>by
  refine ⟨g,m.trans l,t,Sep.nest (a:=a) (h:=UB h g) (Zea l) G (S.mono fun c o e=>?_)⟩
  obtain ⟨e1,e2⟩:=cut_some.mp e
  refine cut_some.mpr ⟨cut_some.mpr ⟨e1,fun u q=>e2 u (m _ _ q)⟩,fun u q=>e2 u (cut_some.mp q).1⟩
theorem Sep.unpack {a:Addr}{Γ Δ:Rs}{H:Hp}{R:Yw}(S:Sep ((a,R)::Δ) H)(f:∀ h,R a h->Sep Γ h):Sep (Γ++Δ) H:=by
 obtain ⟨h,l,r,S⟩:=S
 exact Sep.nest (a:=a) l (f h r) S
theorem Sep.pack' {Δ:Rs}:∀{Γ:Rs}{H:Hp},Sep (Γ++Δ) H->∃ h,Same h H/\Sep Γ h/\Sep Δ (UB H h)
 | [],H,S=>⟨fun _=>none,fun b o e=>(by cases e),trivial,S.mono fun b o e=>cut_some.mpr ⟨e,fun u q=>(by cases q)⟩⟩
 | (b,T)::Γ,H,⟨g,m,t,S⟩=>by
  obtain ⟨h',l',G,S⟩:=Sep.pack' S
  refine ⟨fun c=>match g c with | some o=>some o | none=>h' c,fun c o e=>?_,⟨g,fun c o e=>?_,t,G.mono fun c o e=>?_⟩,S.mono fun c o e=>?_⟩
  ·cases q:g c with
   | some u=>simp only [q] at e;cases e;exact m _ _ q
   | none=>simp only [q] at e;exact (cut_some.mp (l' _ _ e)).1
  ·simp only [e]
  ·obtain ⟨e1,e2⟩:=cut_some.mp (l' _ _ e)
   refine cut_some.mpr ⟨?_,e2⟩
   cases q:g c with
   | some u=>simp only [q];rw [m _ _ q] at e1;exact e1
   | none=>simp only [q];exact e
  ·obtain ⟨e1,e2⟩:=cut_some.mp e
   obtain ⟨e3,e4⟩:=cut_some.mp e1
   refine cut_some.mpr ⟨e3,fun u q=>?_⟩
   cases z:g c with
   | some v=>simp only [z] at q;cases q;exact e4 _ z
   | none=>simp only [z] at q;exact e2 _ q
theorem Sep.pack {a:Addr}{Γ Δ:Rs}{H:Hp}{R:Yw}(S:Sep (Γ++Δ) H)(f:∀ h,Sep Γ h->R a h):Sep ((a,R)::Δ) H:=by
 obtain ⟨h,l,G,S⟩:=Sep.pack' S
 exact ⟨h,l,f h G,S⟩
section
variable {X:Cx}
end
section
variable {X:Cx}{k:Nat}{C:Addr}{x m:Str}{ps:List Str}{sp:Sp}{p pos apos:Pos}{o:Expr}{ta:TE}
theorem WT {pl:Sem Bool}(D:DefM X.prog X.w X.K X.mg X.base k C m ps sp)(c:Cls X.K C)(hr:Room k X.A)(he:PE X o ta)
 (ht:eval (.Call (.Attribute o m apos) [] [] pos) X.env=(do
  let ov <- eval o X.env
  TV apos.atName
  let (f,first) <- Pd [ov] (Tq ov m pl)
  Sq pos f first (Jg pos (QE [] X.env)) (PQ pos (Jk [] X.env))):=by rfl) :
 PE X (.Call (.Attribute o m apos) [] [] pos) (Zdl C m sp [] E0 ta WP):=by
 obtain ⟨f,fd,F,b,q⟩:=D
 exact Zjq he c q F hr b .nil Zde ht
end
def Zgs (K:Qa)(a:Addr):It :=
 ⟨fun i H=>∃ xs x,SqL K H a xs/\xs[i]?=some x,fun i H v H'=>∃ t x,H t=none/\(∀ xs,SqL K H a xs->xs[i]?=some x)/\v=.ref t/\H'=upd H t (.tup [.int (i:Int),x]),fun i H=>∃ xs,SqL K H a xs/\xs.length<=i⟩
theorem ZgZ {P:Qk}{w:Qv}{K:Qa}{elts:List Expr}{x1:Nat}{tp:Pos}(a e it:Addr)(hne:e≠it)(hai:a≠it)(hae:a≠e) :
 VG P w K (.Tuple elts x1 tp) (Zgs K a) [e,it] e (fun i h=>(∃ old,IsEnum h e it (i:Int) old)/\h.IsListIter it a i) where
 mem:=by simp
 obj:=fun i h st b hb=>by
  obtain ⟨⟨old,he⟩,⟨o,ho,c,d⟩⟩:=st
  rcases mem_cons.mp hb with q | hb
  ·rw [q];exact ⟨_,he,fun v z=>by cases z⟩
  ·rw [mem_singleton.mp hb];exact ⟨o,ho,fun v z=>by rw [d] at z;cases z⟩
 keep:=fun i h h' st k=>by
  obtain ⟨⟨old,he⟩,st⟩:=st
  exact ⟨⟨old,k e (by simp) _ he⟩,st.at fun o y=>k it (by simp) o y⟩
 item:=by
  intro X hP hw hK hc i pins s σ H E I hf st hg
  subst hP hw hK
  obtain ⟨⟨old,he⟩,hs⟩:=st
  obtain ⟨xs,x,hq,hx⟩:=hg
  obtain ⟨its,rv,p,hz⟩:=I.list hq
  obtain ⟨u,hu,ru⟩:=rv.get hx
  have hlt:i < its.toArray.size:=by
   have:=(Qf.mp hu).1
   simpa using this
  have D:=Draws.list (prog:=X.prog) (w:=X.w) (A:=X.A.in1) (I.ok.hd hc) it a hai its.toArray
  refine Sw (i:=i) D he ⟨hs,p.isList⟩ hlt hne (by simp [hne,Gv hae]) fun v h' tk hP hOut hst hT hsz hk=>?_
  have ev:v=u:=by
   have:its[i]?=some v:=by simpa using hP
   rw [hu] at this;exact (QG this).symm
  subst ev
  have hel:e < s.heap.objs.size:=Qj he
  have hil:it < s.heap.objs.size:=by obtain ⟨o,ho,_⟩:=hs;exact Qj ho
  refine ⟨_,rfl,TJ hOut fun h2 he2 hs2=>?_⟩
  generalize hO:({ cls:=.type "tuple",data:=.seq #[.int ((i:Nat):Int) tk,v] }:Obj)=O at hT
  have I1:Inv X pins σ (upd H s.heap.objs.size (.tup [.int (i:Int),x])) { s with heap:=s.heap.push O,toks:=tk+1 }:=by
   refine I.laid (t':=tk+1) (fun b o y=>Qd _ y) (Qh _) (show ObjOk X.prog X.w _ _ _ (.tup _) from ⟨by show 2<=Qi;decide,[.int ((i:Nat):Int) tk,v],.cons ⟨tk,rfl⟩ (.cons ru .nil),?_⟩)
   rw [<- hO];exact Tp _ _
  have hfree:=I.hok.fresh (Qh s.heap.objs.size)
  have hf2:∀ b∈[e,it],Wl X pins (upd H s.heap.objs.size (.tup [.int (i:Int),x])) b:=fun b hb=>by
   obtain ⟨f0,f1⟩:=hf b hb
   have hb':b≠s.heap.objs.size:=by
    rcases mem_cons.mp hb with q | hb
    ·rw [q];exact Qw hel
    ·rw [mem_singleton.mp hb];exact Qw hil
   exact ⟨by rw [Zg hb'];exact f0,f1⟩
  have I2:Inv X pins σ (upd H s.heap.objs.size (.tup [.int (i:Int),x])) { s with heap:=h2,toks:=tk+1 }:=by
   refine I1.turned2 (t':=tk+1) (h':=h2) (fun b o hb y=>?_) hf2
   have hbe:b≠e:=fun q=>hb (by simp [q])
   have hbi:b≠it:=fun q=>hb (by simp [q])
   rw [hs2.2 b hbe]
   rcases RG y with ⟨q1,q2⟩ | y
   ·rw [q1,q2];exact hT
   ·exact hk b o hbe hbi y
  refine ⟨.ref s.heap.objs.size,_,I2,rfl,⟨s.heap.objs.size,x,hfree,fun ys hy=>by rw [I.list_inj hy hq];exact hx,rfl,rfl⟩,⟨⟨_,he2⟩,?_⟩,fun b hb=>(hf2 b hb).1⟩
  exact hst.1.at fun o y=>by rw [hs2.2 it hne.symm];exact y
 done:=by
  intro X hP hw hK hc i pins s σ H E I hf st hg
  subst hP hw hK
  obtain ⟨⟨old,he⟩,hs⟩:=st
  obtain ⟨xs,hq,hle⟩:=hg
  obtain ⟨its,rv,p,hz⟩:=I.list hq
  have hl:=rv.length
  obtain ⟨f0,f1,f2,f3,f4,f5⟩:=hf it (by simp)
  exact wpAny_pyNext_enum_end (I.ok.hd hc) he hs p.isList (by simp;omega) fun h' eb=>⟨rfl,I.turned (t':=s.toks) (fun b o hb y=>eb b o hb y) f0 f1 f3 f4 f5⟩
 self:=fun _ _ _ _ _ st h=>by
  obtain ⟨⟨old,he⟩,_⟩:=st
  exact Pk he h
def Zmv (K:Qa)(tl:TE):TI:=fun σ H R=>tl σ H fun v H1=>∃ a xs,[v]=[V.ref a]/\H1 a=some (.lst xs)/\R (Zgs K a) H1
section
variable {X:Cx}
theorem ZjA {l:Expr}{tl:TE}{elts:List Expr}{x1:Nat}{tp p pos:Pos}(hg:Gl X "enumerate")(hm:X.mg "enumerate"=none)(hl:PE X l tl)
 (he:QE [l] X.env=[(false,eval l X.env)]:=by rfl):PI X (.Tuple elts x1 tp) (.Call (.Name "enumerate" p) [l] [] pos) (Zmv X.K tl):=by
 intro pins s σ H R I h
 have ha:PA X [l] (XZ tl WP):=Yv hl Za he
 refine QV (Ur I hg hm boot_enumerate ?_)
 refine Jw (Zs (ha pos pins s σ H (fun vs H1=>∃ a xs,vs=[V.ref a]/\H1 a=some (.lst xs)/\R (Zgs X.K a) H1) I h) fun us s1 ⟨vs,H1,I1,r1,a,xs,e,ea,q⟩=>?_) he rfl
 subst e
 obtain ⟨u,rfl,r⟩:=Yt r1
 cases r
 obtain ⟨z,its,n,rv,hll,eo⟩:=I1.lstM ea
 have hal:a < s1.heap.objs.size:=Qj eo
 refine call_enumerate_1 eo fun h' hE hit hsz hkk=>Pk hE ?_
 refine ⟨s1.heap.objs.size+1,[s1.heap.objs.size+1,s1.heap.objs.size],_,_,H1,rfl,I1.kept (t':=s1.toks) hkk,ZgZ a _ _ (Nq _) (Qw hal) (Qw (Jz hal)),⟨⟨_,hE⟩,hit⟩,fun b hb=>?_,q⟩
 rcases mem_cons.mp hb with z | hb
 ·rw [z];exact I1.fpOk (Gu _) (I1.hok.fresh (Gu _))
 ·rw [mem_singleton.mp hb];exact I1.fpOk (Qh _) (I1.hok.fresh (Qh _))
end
theorem Zeo {K:Qa}{a:Addr}{xs:List V}{g:TG}{tc:TT}{te:TE}{σ:St}{D:Addr}{Q:VK}{H:Hp}(hn:xs.length<=Qi)(Pv:Nat->List V->Hp->Prop)(h0:Pv 0 [] (upd H D (.lst [])))
 (hl:∀ i ys H,Pv i ys H->ys.length<=i/\SqL K H a xs)
 (hs:∀ i x t ys H wa wb,xs[i]?=some x->H t=none->Pv i ys H->g (.ref t) (σ++[wa,wb]) (upd H t (.tup [.int (i:Int),x])) fun σ' H'=>(∃ wa wb,σ'=σ++[wa,wb])/\tc σ' H' fun b H3=>if b=true then te σ' H3 fun y H4=>H4 D=some (.lst ys)/\Pv (i+1) (ys++[y]) (upd H4 D (.lst (ys++[y]))) else Pv (i+1) ys H3)
 (hd:∀ ys H,Pv xs.length ys H->Q (.ref D) H):CompVT (Zgs K a) g tc te σ D Q H:=by
 refine ⟨fun i m ys H=>m=xs.length - i/\i<=xs.length/\Pv i ys H,⟨xs.length,by simp,QC _,h0⟩,?_⟩
 rintro i m ys H2 ⟨rfl,hi,p⟩
 obtain ⟨hlen,q⟩:=hl i ys _ p
 by_cases hlt:i < xs.length
 ·refine .inr ⟨⟨xs,xs[i],q,by simp [hlt]⟩,_,_,fun y H4 (q:H4 D=some (.lst ys)/\Pv (i+1) (ys++[y]) (upd H4 D (.lst (ys++[y]))))=>⟨q.1,by omega,xs.length - (i+1),by omega,rfl,hlt,q.2⟩,fun H4 (q:Pv (i+1) ys H4)=>⟨xs.length - (i+1),by omega,rfl,hlt,q⟩,fun wa wb v H3 y=>?_⟩
  obtain ⟨t,x,e1,e2,e3,e4⟩:=y
  subst e3 e4
  exact hs i x t ys _ wa wb (e2 xs q) e1 p
 ·have e:i=xs.length:=by omega
  subst e
  exact .inl ⟨⟨xs,q,Qh _⟩,hd ys H2 p⟩
def Zpp (i j k:Nat)(ta:TA):TS:=fun D σ H=>ta σ H fun vs H1=>∃ u v w,vs=[u,v,w]/\D.nx (((σ.set i (some u)).set j (some v)).set k (some w)) H1
theorem ZlO {X:Cx}{pos:Pos}{i j k:Nat}{x y z:Str}{a b c:Expr}{ta:TA}{px py pz pt:Pos}{kt k2 pt2}(hc:X.calm=true)(hN:X.N.Nodup)(hi:X.N[i]?=some x)(hj:X.N[j]?=some y)(hk:X.N[k]?=some z)(hij:i≠j)(hik:i≠k)(hjk:j≠k)
 (hx:X.env.scope.names.lookup x=some .local) (hy:X.env.scope.names.lookup y=some .local) (hz:X.env.scope.names.lookup z=some .local) (ha:PA X [a,b,c] ta)
 (hw:Ol [.Tuple [.Name x px,.Name y py,.Name z pz] kt pt] (.Tuple [a,b,c] k2 pt2) X.env=pure (some [x,y,z]))
 (hs:Oj [.Tuple [.Name x px,.Name y py,.Name z pz] kt pt] (.Tuple [a,b,c] k2 pt2) pos.line X.env=pure false:=by rfl) :
 PS X (.Assign [.Tuple [.Name x px,.Name y py,.Name z pz] kt pt] (.Tuple [a,b,c] k2 pt2) pos) (Zpp i j k ta):=by
 intro pins s σ H D I h
 rw [NN]
 refine Qg (Gz ?_)
 rw [hs]
 refine Qg (Qp ?_)
 rw [if_neg (by decide)]
 refine Qg (Tuple_ (Zs (ha _ pins s σ H _ I h) fun us s1 ⟨vs,H1,I1,r1,q1⟩=>?_))
 obtain ⟨v1,v2,v3,e1,q1⟩:=q1
 subst e1
 obtain ⟨u1,u2,u3,rfl,rv1,rv2,rv3⟩:∃ u1 u2 u3,us=[u1,u2,u3]/\RelV v1 u1/\RelV v2 u2/\RelV v3 u3:=by
  cases r1 with
  | cons p q =>
   cases q with
   | cons p' q' =>
    cases q' with
    | cons p'' q'' =>
     cases q''
     exact ⟨_,_,_,rfl,p,p',p''⟩
 refine Gj ?_ (by show 3<=Qi;decide)
 have I2:Inv X pins σ H1 { s1 with heap:=s1.heap.push { cls:=.type "tuple",data:=.seq [u1,u2,u3].toArray } }:=I1.kept (t':=s1.toks) fun b o e=>Qd _ e
 rw [hw]
 refine Qg (Qp ?_)
 show Qq (Qt X.prog X.w) X.A (do rule "assign.swapped-stores";let items <- unpackItems (.ref s1.heap.objs.size) 3 none;PJ [fun v=>JC X.env z v,fun v=>JC X.env y v,fun v=>JC X.env x v] items.reverse;pure Ni) _ _ _
 refine Qg (Ox (Qg (ON (items:=#[u1,u2,u3]) (I.ok.hd hc) (Tp s1.heap _) fun h' hx'=>?_)))
 have I3:=I2.kept (h':=h') (t':=s1.toks) fun b o e=>hx' b o (Qw (Qj e)) e
 show Qq _ _ (PJ [fun v=>JC X.env z v,fun v=>JC X.env y v,fun v=>JC X.env x v] [u3,u2,u1] >>= fun _=>pure Ni) _ _ _
 refine Qg (GN (Pe (Xj I3 hN hk (.inl hz) rv3 (fun s2 I4=>?_) (.inr hz))))
 refine GN (Pe (Xj I4 hN hj (.inl hy) rv2 (fun s3 I5=>?_) (.inr hy)))
 refine GN (Pe (Xj I5 hN hi (.inl hx) rv1 (fun s4 I6=>TW (Qp ?_)) (.inr hx)))
 rw [Sg _ _ (Gv hjk),Sg _ _ (Gv hik),Sg _ _ (Gv hij)] at I6
 exact ⟨_,H1,I6,q1⟩
section
variable {X:Cx}
end
end L2
namespace L2
open PySem
theorem Sep.newE {Δ:Rs}{H H2:Hp}{o:HO}(S:Sep Δ H){p:Addr}(hp:H p=none)(e:upd H p o=H2):Sep ((p,Pt o)::Δ) H2:=e ▸ S.new hp o
theorem Sep.putE {Δ Δ':Rs}{H H2:Hp}{o o':HO}{a:Addr}(S:Sep Δ H)(e:upd H a o'=H2)[P:Pull a Δ (Pt o) Δ'](m:YR o=true:=by rfl):Sep ((a,Pt o')::Δ') H2:=e ▸ S.put a o' m
theorem ZeO {lo:Int}{n:Nat}{te:TE}{σ:St}{D:Addr}{Q:VK}{H:Hp}{Δ:Rs}(hn:n<=Qi)(S:Sep Δ H)(hD:H D=none)(J:Nat->List V->Rs->Prop)(h0:J 0 [] Δ)
 (hs:∀ i ys Δ H,i < n->ys.length=i->J i ys Δ->Sep ((D,Yj ys)::Δ) H->te (σ++[some (.int (lo+i))]) H fun y H4=>∃ Δ',J (i+1) (ys++[y]) Δ'/\Sep ((D,Yj ys)::Δ') H4)
 (hd:∀ ys Δ H,J n ys Δ->ys.length=n->Sep ((D,Yj ys)::Δ) H->Q (.ref D) H):CompW (Itr lo n) te σ D Q H:=by
 refine ⟨fun i m ys H=>m=n - i/\i<=n/\ys.length=i/\∃ Δ,J i ys Δ/\Sep ((D,Yj ys)::Δ) H,⟨n,by simp,QC _,rfl,Δ,h0,S.new hD _⟩,?_⟩
 rintro i m ys H2 ⟨rfl,hi,hl,Δ,j,S⟩
 by_cases hlt:i < n
 ·refine .inr ⟨hlt,_,fun y H4 (q:∃ Δ',J (i+1) (ys++[y]) Δ'/\Sep ((D,Yj ys)::Δ') H4)=>?_,fun v H3 y=>?_⟩
  ·obtain ⟨Δ',j',S'⟩:=q
   exact ⟨S'.get D,by omega,n - (i+1),by omega,rfl,hlt,by simp [hl],Δ',j',S'.put D _⟩
  ·obtain ⟨e1,e2⟩:=y
   subst e1 e2
   exact hs i ys Δ _ hlt hl j S
 ·have e:i=n:=by omega
  exact .inl ⟨by show n<=i;omega,hd ys Δ H2 (e ▸ j) (by omega) S⟩
end L2
namespace L2
open PySem PySem.W PySem.Spec PyProof.Rows
section
variable {prog:Qk}{w:Qv}{A:QF}{E:Qb->Qe->Prop}{s:Qe}{a:Addr}{as:List Addr}{ks:List Str}{P:RV->Qe->Prop}
end
section
variable {X:Cx}
end
end L2
namespace L2
open PySem
def Um (x:Str):Prop:=1<=x.length/\x.length<=8/\x.cps.toList.all ZbV=true
theorem WC (c:Nat):(⟨#[c]⟩:Str).length=1:=rfl
theorem ZdP {P:Nat->Bool}:∀{l:List Str},(∀ z∈l,∃ c,z=⟨#[c]⟩/\P c=true)->(l.map (·.length)).sum=l.length/\(l.flatMap (·.cps.toList)).length=l.length/\(l.flatMap (·.cps.toList)).all P=true
 | [],_=>⟨rfl,rfl,rfl⟩
 | z :: r,h=>by
  obtain ⟨c,rfl,hc⟩:=h z mem_cons_self
  obtain ⟨g1,g2,g3⟩:=ZdP (l:=r) fun y hy=>h y (mem_cons_of_mem _ hy)
  refine ⟨?_,?_,?_⟩
  ·rw [map_cons,Oq,g1,length_cons];show 1+_=_;omega
  ·have e0:((⟨#[c]⟩:Str)::r).flatMap (·.cps.toList)=c::r.flatMap (·.cps.toList):=rfl
   rw [e0,length_cons,length_cons,g2]
  ·rw [Sb,Rj,g3];simp [hc]
theorem Zhm {P:Nat->Bool}{zs:List Str}(h:∀ z∈zs,∃ c,z=⟨#[c]⟩/\P c=true):(zs.map (·.length)).sum+zs.length * (QA "").length<=2 * zs.length/\(Txt.join (QA "") zs).length=zs.length/\(Txt.join (QA "") zs).cps.toList.all P=true:=by
 obtain ⟨g1,g2,g3⟩:=ZdP h
 refine ⟨?_,?_,?_⟩
 ·rw [g1];show _+_ * 0<=_;omega
 ·rw [Yr,WU,g2]
 ·rw [WU];exact g3
theorem ZaH {P:Nat->Bool}{x y:Str}(h1:x.cps.toList.all P=true)(h2:y.cps.toList.all P=true):(x++y).cps.toList.all P=true:=by
 rw [ZcH,Rj,h1,h2];rfl
theorem ZeI {P:Nat->Bool}{c:Nat}(h:P c=true):(⟨#[c]⟩:Str).cps.toList.all P=true:=by
 show [c].all P=true;simp [h]
theorem ZbT {P:Nat->Bool}{x:Str}{lo hi:Option Int}(h:x.cps.toList.all P=true):(Txt.slice x lo hi).cps.toList.all P=true:=by
 rw [UG]
 rw [all_eq_true] at h ⊢
 exact fun c hc=>h c (List.mem_of_mem_drop (List.mem_of_mem_take hc))
theorem Zic {x:Str}{k:Int}(h0:0<=k)(h1:k<=x.length):(Txt.slice x none (some k)).length+(Txt.slice x (some k) none).length=x.length:=by
 have hn:¬ k < 0:=by omega
 rw [Yr,Yr,UG,UG,Yr]
 rw [Yr] at h1
 have e1:HT.sIx x.cps.toList.length 0 none=0:=rfl
 have e2:HT.sIx x.cps.toList.length x.cps.toList.length none=x.cps.toList.length:=rfl
 have e3:∀ d,HT.sIx x.cps.toList.length d (some k)=k.toNat:=fun d=>by
  unfold HT.sIx
  simp only [hn,if_false]
  omega
 rw [e1,e2,e3,e3,length_take,length_take,PD,PD]
 omega
theorem Zcq {x:Str}{P:Nat->Bool}(ha:x.cps.toList.all P=true){r:Int}(h0:0<=r)(h1:r < x.length):∃ c,YH x.cps.toList r=some c/\P c=true:=by
 have hl:r.toNat < x.cps.toList.length:=by rw [<- Yr];omega
 exact ⟨_,ZhY h0 (getElem?_eq_getElem hl),all_eq_true.mp ha _ (PF hl)⟩
def a26:Str:="abcdefghijklmnopqrstuvwxyz"
theorem WX:a26.length=26:=by decide +kernel
theorem ZbY:a26.cps.toList.all ZbV=true:=by decide +kernel
theorem ZkN {xs:List V}{r:Int}(h0:0<=r)(h1:r < (xs.length:Int)):∃ x∈xs,YH xs r=some x:=by
 have hl:r.toNat < xs.length:=by omega
 exact ⟨_,PF hl,ZhY h0 (getElem?_eq_getElem hl)⟩
theorem Sep.le {Δ:Rs}{H:Hp}{p:Addr}{n m:Nat}(S:Sep ((p,Bx n)::Δ) H)(h:n<=m):Sep ((p,Bx m)::Δ) H:=by
 obtain ⟨g,l,r,S⟩:=S
 exact ⟨g,l,BoxAt.le r h,S⟩
def ZaB:Sp:=fun vs H Q _=>∃(p:Addr)(n:Nat)(Δ:Rs),vs=[.ref p]/\Sep ((p,Bx n)::Δ) H/\n<=900000/\∀(v:V)(H':Hp),IsVal v->Sep ((p,Bx (n+50))::Δ) H'->Q v H'
theorem ZlY {vs:List V}{H:Hp}{Q:VK}{E:XK}(h:ZaB vs H Q E):ZfC vs H Q E:=by
 obtain ⟨p,n,Δ,e,S,h1,q⟩:=h
 exact ⟨p,n,e,S.get p,h1,fun v H' hv B k=>q v H' hv (S.box k B)⟩
def Zex (K:Qa):Sp:=fun vs H Q _=>∃(a:Addr)(ns:List Int)(k:Int)(Δ:Rs),vs=[.ref a,.int k]/\SqL K H a (ns.map V.int)/\Sep Δ H/\0<=k/\k<=1000/\∀(p:Addr)(H':Hp),Same H H'->Sep ((p,Bx 0)::Δ) H'->Q (.ref p) H'
theorem Zpl {K:Qa}{vs:List V}{H:Hp}{Q:VK}{E:XK}(h:Zex K vs H Q E):Zkr K vs H Q E:=by
 obtain ⟨a,ns,k,Δ,e,hS,S,h1,h2,q⟩:=h
 refine ⟨a,ns,k,e,hS,h1,h2,fun p H' hp B s=>q p H' s ?_⟩
 obtain ⟨x,y,z,eb,w⟩:=B
 exact (S.made s hp eb).say p (Bx 0) fun h r=>⟨x,y,z,r,w⟩
inductive Stp where
 | set (x:Str) (v:V)
 | clr (x:Str)
def Stp.vs:Stp->List V
 | .set x v=>[.str "set",.str x,v]
 | .clr x=>[.str "clear",.str x]
def Stp.ok (NS:List Str):Stp->Prop
 | .set x v=>x∈NS/\IsVal v
 | .clr x=>x∈NS
class IsLst (R:Yw) (k:Nat):Prop where
 lst:∀ {a h},R a h->∃ xs,h a=some (.lst xs)/\xs.length=k
theorem Zay (B:Nat):∀(ts:List Str)(k:Nat)(acc:Str),(∀ t∈ts,t.length<=B)->(textFrom k acc ts).length<=acc.length+ts.length * (B+2)
 | [],_,acc,_=>by show acc.length<=acc.length+0 * (B+2);omega
 | t::r,k,acc,h=>by
  have h1:=Zay B r (k+1) (acc++(if k > 0 then ", " else "":String)++t) fun x hx=>h x (mem_cons_of_mem _ hx)
  have h2:=h t mem_cons_self
  rw [Xd,Xd] at h1
  have h3:(QA (if k > 0 then ", " else "":String)).length<=2:=by split<;>decide
  show (textFrom (k+1) (acc++(if k > 0 then ", " else "":String)++t) r).length<=acc.length+(r.length+1) * (B+2)
  rw [Nat.add_mul,Nat.one_mul]
  omega
theorem ZlG {i:Int}(h:i.natAbs<=10 ^ 31):i.natAbs.log2 < 1920/\(QA (toString i)).length<=40:=by
 constructor
 ·by_cases z:i.natAbs=0
  ·rw [z];decide
  ·exact (NK z).mpr (QO h (by decide +kernel))
 ·have e:=int_text_length_le10 (a:=i) (k:=32) (by decide) (QO h (by decide))
  rw [Yr,Ma,length_map,String.length_toList]
  omega
theorem ZdK (q c:Nat)(h:c < 128):(Gb q c).length<=4:=by
 by_cases e:(c == q || c == 92)=true
 ·unfold Gb;simp only [e,if_true];show 2<=4;decide
 ·have e2:(c == 200 || c == 92)=false:=by
   simp only [Rg,not_or,beq_iff_eq] at e
   simp only [Bool.or_eq_false_iff,beq_eq_false_iff_ne]
   exact ⟨by omega,e.2⟩
  have z:Gb q c=Gb 200 c:=by
   unfold Gb
   simp only [Bool.not_eq_true] at e
   simp only [e,e2]
  rw [z]
  have all:∀ c:_root_.Fin 128,(Gb 200 c.val).length<=4:=by decide +kernel
  exact all ⟨c,h⟩
theorem ZjS {x:Str}(h:∀ c∈x.cps.toList,c < 128):(reprText x).length<=2+4 * x.length:=by
 rw [<- reprLen_eq,<- Array.foldl_toList,Yr]
 have gen:∀ (l:List Nat) (n:Nat),(∀ c∈l,c < 128)->l.foldl (fun n c=>n+(Gb (reprQuote x) c).length) n<=n+4 * l.length:=by
  intro l
  induction l with
  | nil=>intro n _;simp
  | cons c r ih =>
   intro n hc
   have h1:=ZdK (reprQuote x) c (hc c mem_cons_self)
   have h2:=ih (n+(Gb (reprQuote x) c).length) fun d hd=>hc d (mem_cons_of_mem _ hd)
   rw [Rf,length_cons]
   omega
 exact gen _ _ h
def Ym (v:V):Prop:=v=.non\/IsVal v
def YE:V->Ta
 | .int i=>.int i
 | .str x=>.str x
 | _=>.none
theorem Zce {H:Hp}{v:V}(h:Ym v):DataOf H v (YE v):=by
 rcases h with rfl | h
 ·exact .non
 ·cases v<;>first | exact .int _ | exact .str _ | exact h.elim
structure Sml (d:Ta)(n k:Nat):Prop where
 sh:d.showable=true
 ln:d.shown.length<=n
 dp:d.depth<=k
theorem ZkF {x:Str}{n:Nat}(h:∀ c∈x.cps.toList,c < 128)(hl:2+4 * x.length<=n)(k:Nat):Sml (.str x) n k:=⟨rfl,Qn (ZjS h) hl,QC _⟩
theorem Zbo {v:V}(h:Ym v)(k:Nat):Sml (YE v) 200 k:=by
 rcases h with rfl | h
 ·exact ⟨rfl,by show 4<=200;decide,QC _⟩
 ·cases v with
  | int i =>
   obtain ⟨h1,h2⟩:=ZlG (IsVal.b31 h)
   exact ⟨decide_eq_true h1,Qn h2 (by decide),QC _⟩
  | str x =>
   refine ZkF (fun c hc=>?_) (by have:x.length<=40:=h.1;omega) k
   have:=all_eq_true.mp h.2 c hc
   unfold VH at this
   simp only [QL,decide_eq_true_eq] at this
   omega
  | _=>exact h.elim
theorem Uu:∀ ds:List Ta,Td ds=ds.map GI
 | []=>rfl
 | d::r=>by rw [Td,Uu r];rfl
theorem Wx:∀{ds:List Ta},(∀ d∈ds,d.showable=true)->OI ds=true
 | [],_=>rfl
 | d::r,h=>by rw [OI,h d mem_cons_self,Wx fun e he=>h e (mem_cons_of_mem _ he)];rfl
theorem UH {k:Nat}:∀{ds:List Ta},(∀ d∈ds,d.depth<=k)->Gh ds<=k
 | [],_=>QC _
 | d::r,h=>by
  have h1:=h d mem_cons_self
  have h2:=UH (k:=k) (ds:=r) fun e he=>h e (mem_cons_of_mem _ he)
  simp [Gh];omega
theorem Zjn {ds:List Ta}{n k:Nat}(h:∀ d∈ds,Sml d n k):Sml (.list ds) (2+ds.length * (n+2)) (k+1):=by
 refine ⟨Wx fun d hd=>(h d hd).sh,?_,?_⟩
 ·show (listText (Td ds)).length<=_
  rw [Uu]
  show (textFrom 0 "[" (ds.map GI)++QA "]").length<=_
  rw [Xd]
  have z:=Zay n (ds.map GI) 0 "[" (fun t ht=>by
   obtain ⟨d,hd,rfl⟩:=mem_map.mp ht
   exact (h d hd).ln)
  rw [length_map] at z
  have z1:(QA "[").length=1:=by decide
  have z2:(QA "]").length=1:=by decide
  have z3:(textFrom 0 "[" (ds.map GI)).length<=1+ds.length * (n+2):=by rw [<- z1];exact z
  omega
 ·have:=UH (k:=k) fun d hd=>(h d hd).dp
  show Gh ds+1<=_
  omega
theorem ZcE {H:Hp}:∀{vs:List V},(∀ v∈vs,Ym v)->DatasOf H vs (vs.map YE)
 | [],_=>.nil
 | v::r,h=>.cons (Zce (h v mem_cons_self)) (ZcE fun u hu=>h u (mem_cons_of_mem _ hu))
def Uq (K:Qa)(C:Addr)(nds:List Nd)(tabs:List (Zn×V)):Yw:=fun st h=>nds[0]?=some .bare/\∃ ln dt,StoreAt K C st ln dt h nds tabs
def Zjw (lp:Pos)(q:Str):Yw:=fun Pl h=>LamAt h Pl lp q
instance {K:Qa} {C:Addr} {nds:List Nd} {tabs:List (Zn×V)}:Up (Uq K C nds tabs):=⟨fun ⟨h0,ln,dt,h⟩ s=>⟨h0,ln,dt,h.keep s⟩⟩
theorem LamAt.same' {H H':Hp}{Pl:Addr}{lp:Pos}{q:Str}(h:LamAt H Pl lp q)(s:Same H H'):LamAt H' Pl lp q:=by
 rcases h with h | ⟨c,h1,h2⟩
 ·exact .inl (s _ _ h)
 ·exact .inr ⟨c,s _ _ h1,s _ _ h2⟩
def some_of (H:Hp)(L:List Addr):Hp:=fun b=>if b∈L then H b else match H b with
 | some o=>if YR o=true then none else some o
 | none=>none
theorem WV {H:Hp}{L:List Addr}:Same (some_of H L) H:=fun b o e=>by
 unfold some_of at e
 split at e
 ·exact e
 ·split at e
  ·rename_i o' h'
   split at e
   ·cases e
   ·cases e;exact h'
  ·cases e
theorem Wd {H:Hp}{L:List Addr}{b:Addr}(h:b∈L):some_of H L b=H b:=by unfold some_of;rw [if_pos h]
theorem UN {H:Hp}{L:List Addr}{b:Addr}{o:HO}(e:H b=some o)(m:YR o=false):some_of H L b=some o:=by
 unfold some_of
 split
 ·exact e
 ·simp only [e,m,GP,if_false]
theorem WA {H:Hp}{L:List Addr}{b:Addr}{o:HO}(e:some_of H L b=some o)(m:YR o=true):b∈L:=by
 unfold some_of at e
 split at e
 ·assumption
 ·split at e
  ·split at e
   ·cases e
   ·rename_i h;cases e;exact absurd m h
  ·cases e
theorem Zfh {H:Hp}{L:List Addr}:TF H (some_of H L):=⟨fun b xs e=>UN e rfl,fun b o u e=>UN e rfl⟩
theorem Sep.stoLam {K:Qa}{C st Pl:Addr}{lp:Pos}{q:Str}{nds:List Nd}{tabs:List (Zn×V)}{Δ:Rs}{H:Hp}(S:Sep ((st,Uq K C nds tabs)::(Pl,Zjw lp q)::Δ) H) :
 ∃ ln dt,StoreAt K C st ln dt H nds tabs/\nds[0]?=some .bare/\LamAt H Pl lp q/\∀ H' nds' tabs',StoreAt K C st ln dt H' nds' tabs'->nds'[0]?=some .bare->LamAt H' Pl lp q->Kq [ln,dt,Pl] H H'->Sep ((st,Uq K C nds' tabs')::(Pl,Zjw lp q)::Δ) H':=by
 obtain ⟨h1,l1,⟨b0,ln,dt,r1⟩,h2,l2,r2,S⟩:=S
 have r2':LamAt h2 Pl lp q:=r2
 refine ⟨ln,dt,r1.keep l1,b0,(LamAt.same' r2' l2).same' Zbn,fun H' nds' tabs' S' b0' L' kq=>?_⟩
 obtain ⟨tb,etb⟩:=r2'.tbl
 obtain ⟨tb',etb'⟩:=L'.tbl
 obtain ⟨dx,ob⟩:=r1.ob
 obtain ⟨as,nl,_⟩:=r1.nl
 obtain ⟨dx',ob'⟩:=S'.ob
 obtain ⟨as',nl',nlen',nod'⟩:=S'.nl
 have nPl:Pl ∉ [st,ln,dt]:=fun z=>by
  simp only [mem_cons,SE,or_false] at z
  rcases z with z | z | z
  ·rw [z,ob'] at etb';cases etb'
  ·rw [z,nl'] at etb';cases etb'
  ·rw [z,S'.tb] at etb';cases etb'
 refine ⟨some_of H' [st,ln,dt],WV,⟨b0',ln,dt,⟨⟨dx',by rw [Wd (by simp)];exact ob'⟩,⟨as',by rw [Wd (by simp)];exact nl',nlen',fun i a n e1 e2=>(nod' i a n e1 e2).tf Zfh⟩,by rw [Wd (by simp)];exact S'.tb⟩⟩,?_⟩
 have imm:∀ b o,H' b=some o->YR o=false->UB H' (some_of H' [st,ln,dt]) b=some o:=fun b o e m=>cut_some.mpr ⟨e,fun u z=>by have:=WV _ _ z;rw [e] at this;cases this;exact m⟩
 refine ⟨some_of (UB H' (some_of H' [st,ln,dt])) [Pl],WV,?_,S.mono fun b o e=>?_⟩
 ·have ePl:some_of (UB H' (some_of H' [st,ln,dt])) [Pl] Pl=H' Pl:=by
   rw [Wd (by simp)]
   have:UB H' (some_of H' [st,ln,dt]) Pl=some (.tbl tb'):=cut_some.mpr ⟨etb',fun u z=>by
    cases m:YR u with
    | false=>rfl
    | true=>exact absurd (WA z m) nPl⟩
   rw [this,etb']
  rcases L' with z | ⟨c,z1,z2⟩
  ·exact .inl (by rw [ePl];exact z)
  ·refine .inr ⟨c,by rw [ePl];exact z1,?_⟩
   exact UN (imm _ _ z2 rfl) rfl
 ·obtain ⟨e1,e2⟩:=cut_some.mp e
  obtain ⟨e3,e4⟩:=cut_some.mp e1
  have n1:b≠ln:=fun z=>by have:=e4 _ (z ▸ nl);cases this
  have n2:b≠dt:=fun z=>by have:=e4 _ (z ▸ r1.tb);cases this
  have n3:b≠Pl:=fun z=>by have:=e2 _ (z ▸ etb);cases this
  have n4:b≠st:=fun z=>by have:=e4 _ (z ▸ ob);cases this
  have e5:=kq b o (by simp [n1,n2,n3]) e3
  refine cut_some.mpr ⟨cut_some.mpr ⟨e5,fun u z=>?_⟩,fun u z=>?_⟩
  ·cases m:YR u with
   | false=>rfl
   | true=>have:=WA z m;simp [n1,n2,n4] at this
  ·cases m:YR u with
   | false=>rfl
   | true=>have:=WA z m;simp [n3] at this
def Xq (C:Addr)(fs:List (Str×V)):Yw:=fun a h=>∃ dx,h a=some (.ins C dx fs)
instance {C:Addr} {fs:List (Str×V)}:Up (Xq C fs):=⟨fun ⟨dx,h⟩ s=>⟨dx,s _ _ h⟩⟩
structure Yn where
 ah:Nat
 st:Stp
 tb:Nat
 co:Nat
def Vi (ss:List Stp):Yw:=fun l h=>∃ as:List Addr,h l=some (.lst (V.non::as.map V.ref))/\as.length=ss.length/\∀(i:Nat)(a:Addr)(s:Stp),as[i]?=some a->ss[i]?=some s->h a=some (.tup s.vs)
instance {ss:List Stp}:Up (Vi ss):=⟨fun ⟨as,e,l,h⟩ s=>⟨as,s _ _ e,l,fun i a x e1 e2=>s _ _ (h i a x e1 e2)⟩⟩
abbrev UR (st la ls lt lc:Addr):List (Str×V):=[("kept",.ref st),("aheads",.ref la),("steps",.ref ls),("tables",.ref lt),("costs",.ref lc)]
abbrev ZiJ (K:Qa)(CR CS:Addr)(pls:List Yn)(nds:List Nd)(tabs:List (Zn×V))(r st la ls lt lc:Addr):Rs :=
 [(r,Xq CR (UR st la ls lt lc)),(st,Uq K CS nds tabs),(la,Yj (V.non::pls.map fun q=>V.int (q.ah:Int))),(ls,Vi (pls.map (·.st))),(lt,Yj (V.int 0::pls.map fun q=>V.int (q.tb:Int))),(lc,Yj (V.int 0::pls.map fun q=>V.int (q.co:Int)))]
def Va (K:Qa)(CR CS:Addr)(pls:List Yn)(nds:List Nd)(tabs:List (Zn×V)):Yw:=fun r h=>∃ st la ls lt lc,Sep (ZiJ K CR CS pls nds tabs r st la ls lt lc) h
instance {K:Qa} {CR CS:Addr} {pls:List Yn} {nds:List Nd} {tabs:List (Zn×V)}:Up (Va K CR CS pls nds tabs):=⟨fun ⟨st,la,ls,lt,lc,S⟩ s=>⟨st,la,ls,lt,lc,S.mono s⟩⟩
theorem Sep.roaO {K:Qa}{CR CS r:Addr}{pls:List Yn}{nds:List Nd}{tabs:List (Zn×V)}{Δ:Rs}{H:Hp}(S:Sep ((r,Va K CR CS pls nds tabs)::Δ) H):∃ st la ls lt lc,Sep ((r,Xq CR (UR st la ls lt lc))::(st,Uq K CS nds tabs)::(la,Yj (V.non::pls.map fun q=>V.int (q.ah:Int)))::(ls,Vi (pls.map (·.st)))::(lt,Yj (V.int 0::pls.map fun q=>V.int (q.tb:Int)))::(lc,Yj (V.int 0::pls.map fun q=>V.int (q.co:Int)))::Δ) H:=by
 obtain ⟨h,l,⟨st,la,ls,lt,lc,G⟩,S⟩:=S
 exact ⟨st,la,ls,lt,lc,Sep.nest (a:=r) (Γ:=ZiJ K CR CS pls nds tabs r st la ls lt lc) l G S⟩
theorem Sep.roaC {K:Qa}{CR CS r st la ls lt lc:Addr}{pls:List Yn}{nds:List Nd}{tabs:List (Zn×V)}{Δ:Rs}{H:Hp}(S:Sep ((r,Xq CR (UR st la ls lt lc))::(st,Uq K CS nds tabs)::(la,Yj (V.non::pls.map fun q=>V.int (q.ah:Int)))::(ls,Vi (pls.map (·.st)))::(lt,Yj (V.int 0::pls.map fun q=>V.int (q.tb:Int)))::(lc,Yj (V.int 0::pls.map fun q=>V.int (q.co:Int)))::Δ) H):Sep ((r,Va K CR CS pls nds tabs)::Δ) H :=
 Sep.pack (Γ:=ZiJ K CR CS pls nds tabs r st la ls lt lc) S fun h G=>⟨st,la,ls,lt,lc,G⟩
theorem Sep.imm {Δ:Rs}{H:Hp}{a:Addr}{o:HO}(S:Sep Δ H)(e:H a=some o)(m:YR o=false):Sep ((a,Pt o)::Δ) H:=by
 refine ⟨one a o,fun b u q=>?_,one_some.mpr ⟨rfl,rfl⟩,S.mono fun b u q=>cut_some.mpr ⟨q,fun v z=>?_⟩⟩
 ·obtain ⟨rfl,rfl⟩:=one_some.mp q;exact e
 ·obtain ⟨rfl,rfl⟩:=one_some.mp z;exact m
theorem Sep.updR {Δ Δ':Rs}{H:Hp}{R T:Yw}(S:Sep Δ H)(a:Addr)(o':HO)[P:Pull a Δ R Δ'](m:∀ h,R a h->∃ o,h a=some o/\YR o=true)
 (f:∀ h,R a h->Same h H->∀ h',h' a=some o'->(∀ b o,b≠a->h b=some o->h' b=some o)->(∀ b o,b≠a->H b=some o->YR o=false->h' b=some o)->T a h'):Sep ((a,T)::Δ') (upd H a o'):=by
 obtain ⟨h,l,r,S⟩:=P.out S
 obtain ⟨o,ea,ma⟩:=m h r
 refine ⟨fun b=>if b=a then some o' else match h b with | some u=>some u | none=>some_of H [] b,fun b u e=>?_,f h r l _ (if_pos rfl) (fun b u nb e=>?_) (fun b u nb e mu=>?_),S.mono fun b u e=>?_⟩
 ·dsimp only at e
  by_cases hb:b=a
  ·rw [if_pos hb] at e;cases e;rw [hb];exact Zf
  ·rw [if_neg hb] at e
   rw [Zg hb]
   cases q:h b with
   | some z=>rw [q] at e;cases e;exact l _ _ q
   | none=>rw [q] at e;exact WV _ _ e
 ·rw [if_neg nb,e]
 ·rw [if_neg nb]
  cases q:h b with
  | some z=>have:=l _ _ q;rw [e] at this;cases this;rfl
  | none=>exact UN e mu
 ·obtain ⟨e1,e2⟩:=cut_some.mp e
  have hb:b≠a:=fun z=>by have:=e2 o (by rw [z];exact ea);rw [ma] at this;cases this
  refine cut_some.mpr ⟨by rw [Zg hb];exact e1,fun v q=>?_⟩
  simp only [if_neg hb] at q
  cases z:h b with
  | some x=>rw [z] at q;cases q;exact e2 _ z
  | none =>
   rw [z] at q
   cases mm:YR v with
   | false=>rfl
   | true=>have:=WA q mm;cases this
theorem Sep.stepApp {Δ Δ':Rs}{H:Hp}{ss:List Stp}{s:Stp}{sa:Addr}{as:List Addr}(S:Sep Δ H)(l:Addr)[P:Pull l Δ (Vi ss) Δ'](e:H l=some (.lst (V.non::as.map V.ref)))(es:H sa=some (.tup s.vs)):Sep ((l,Vi (ss++[s]))::Δ') (upd H l (.lst (V.non::as.map V.ref++[V.ref sa]))):=by
 refine S.updR l _ (fun h ⟨as,e,_⟩=>⟨_,e,rfl⟩) fun h r l' h' e1 e2 e3=>?_
 obtain ⟨as',e4,hl,hs⟩:=r
 have e5:=l' _ _ e4
 rw [e] at e5
 have e6:as.map V.ref=as'.map V.ref:=(List.cons.inj (HO.lst.inj (QG e5))).2
 refine ⟨as'++[sa],?_,by rw [length_append,length_append,hl];rfl,fun i a x q1 q2=>?_⟩
 ·rw [e1,map_append,e6];rfl
 ·have nsa:sa≠l:=fun z=>by rw [z,e] at es;cases es
  by_cases hi:i < as'.length
  ·rw [getElem?_append_left hi] at q1
   rw [getElem?_append_left (by omega)] at q2
   have q3:=hs i a x q1 q2
   exact e2 _ _ (fun z=>by rw [z,e4] at q3;cases q3) q3
  ·rw [getElem?_append_right (by omega)] at q1 q2
   have h0:i - as'.length=0:=by
    cases z:i - as'.length with
    | zero=>rfl
    | succ j=>rw [z] at q1;simp at q1
   rw [h0] at q1
   rw [show i - ss.length=0 by omega] at q2
   cases (show some sa=some a from q1)
   cases (show some s=some x from q2)
   exact e3 _ _ nsa es rfl
def Stp.ap:Stp->(Str->Option V)->(Str->Option V)
 | .set x v,F=>fun y=>if y=x then some v else F y
 | .clr x,F=>fun y=>if y=x then none else F y
def envs (pls:List Yn):List (Str->Option V):=pls.foldl (fun es q=>es++[q.st.ap (es.getD q.ah fun _=>none)]) [fun _=>none]
theorem ZaQ (pls:List Yn)(q:Yn):envs (pls++[q])=envs pls++[q.st.ap ((envs pls).getD q.ah fun _=>none)]:=by
 unfold envs;rw [List.foldl_append];rfl
theorem ZkK {α:Type}{P:List α->Prop}(h0:P [])(hs:∀ l a,P l->P (l++[a])):∀ l,P l:=by
 have key:∀ n (l:List α),l.length=n->P l:=by
  intro n
  induction n with
  | zero=>intro l h;rw [PR h];exact h0
  | succ n ih =>
   intro l h
   have hne:l≠[]:=fun z=>by rw [z] at h;cases h
   rw [<- Te hne]
   exact hs _ _ (ih _ (by rw [RA];omega))
 exact fun l=>key _ l rfl
theorem Uj (pls:List Yn):(envs pls).length=pls.length+1:=by
 induction pls using ZkK with
 | h0=>rfl
 | hs l q ih=>rw [ZaQ,length_append,ih,length_append];rfl
end L2
namespace L2
open PySem PySem.Spec PyProof.Rows
section
variable {X:Cx}
end
mutual
inductive DatT (K:Qa)(H:Hp):V->Ta->Prop
 | non:DatT K H .non .none
 | int (i):DatT K H (.int i) (.int i)
 | str (x):DatT K H (.str x) (.str x)
 | tup {a xs ds}:SqT K H a xs->DatTs K H xs ds->DatT K H (.ref a) (.tuple ds)
inductive DatTs (K:Qa)(H:Hp):List V->List Ta->Prop
 | nil:DatTs K H [] []
 | cons {v d vs ds}:DatT K H v d->DatTs K H vs ds->DatTs K H (v::vs) (d::ds)
end
section
variable {X:Cx}{pins:List (Addr×Obj)}{σ:St}{H:Hp}{s:Qe}
mutual
theorem DatT.reads (I:Inv X pins σ H s):∀{v d}(u:Qb),DatT X.K H v d->RelV v u->d.hasDict=false/\∃ as,Reads s.heap u d as
 | _,_,u,.non,r=>by cases (show u=.none from r);exact ⟨rfl,_,.none⟩
 | _,_,u,.int i,r=>by obtain ⟨t,e⟩:=(show ∃ t,u=.int i t from r);subst e;exact ⟨rfl,_,.int i t⟩
 | _,_,u,.str x,r=>by obtain ⟨t,e⟩:=(show ∃ t,u=.str x t from r);subst e;exact ⟨rfl,_,.str x t⟩
 | _,_,u,.tup (a:=a) (xs:=xs) e q,r=>by
  cases (show u=.ref a from r)
  obtain ⟨its,rv,⟨o,g,c,n,d⟩,_⟩:=I.tuple e
  obtain ⟨nd,as,ra⟩:=DatTs.reads I its q rv
  exact ⟨by simpa [RD] using nd,_,.tuple g c d (by simpa using ra)⟩
theorem DatTs.reads (I:Inv X pins σ H s):∀{vs ds}(us:List Qb),DatTs X.K H vs ds->Vals vs us->Pj ds=false/\∃ as,ReadsAll s.heap us ds as
 | _,_,_,.nil,.nil=>⟨rfl,_,.nil⟩
 | _,_,_,.cons r t,.cons rv tv=>by
  obtain ⟨n1,as,r1⟩:=DatT.reads I _ r rv
  obtain ⟨n2,bs,r2⟩:=DatTs.reads I _ t tv
  exact ⟨by simp [Pj,n1,n2],_,.cons r1 r2⟩
end
end
theorem ZeK (n:Nat):∀ ts:List Str,(∀ t∈ts,t.length<=n)->piled ts<=ts.length * (n+2)
 | [],_=>by simp [piled]
 | t::r,h=>by
  have h1:=ZeK n r fun x hx=>h x (mem_cons_of_mem _ hx)
  have h2:=h t mem_cons_self
  rw [length_cons,Nat.add_mul]
  simp only [piled] at h1 ⊢
  simp only [map_cons,Oq] at h1 ⊢
  omega
theorem ZcW {ds:List Ta}{n k:Nat}(h:∀ d∈ds,Sml d n k):Sml (.tuple ds) (3+ds.length * (n+2)) (k+1):=by
 refine ⟨Wx fun d hd=>(h d hd).sh,?_,?_⟩
 ·show (tupleText (Td ds)).length<=_
  rw [Uu]
  have z2:(QA (if (ds.map GI).length == 1 then ",)" else ")":String)).length<=2:=by split<;>decide
  have z3:(Str.join ", " (ds.map GI)).length<=ds.length * (n+2):=by
   cases ds with
   | nil=>show 0<=_;omega
   | cons d r =>
    have e:=join_length_add ((d::r).map GI) (by simp)
    have p:=ZeK n ((d::r).map GI) (fun t ht=>by
     obtain ⟨x,hx,rfl⟩:=mem_map.mp ht
     exact (h x hx).ln)
    rw [length_map] at p
    omega
  show (QA "("++Str.join ", " (ds.map GI)++QA (if (ds.map GI).length == 1 then ",)" else ")":String)).length<=_
  rw [Xd,Xd]
  have z1:(QA "(").length=1:=by decide
  omega
 ·have:=UH (k:=k) fun d hd=>(h d hd).dp
  show Gh ds+1<=_
  omega
end L2
namespace L2
open PySem
end L2
namespace L2
open PySem PySem.W PySem.Spec PyProof.Rows
section
variable {X:Cx}
end
end L2
namespace L2
open PySem
def tCut (t u:TS):TS:=fun D σ H=>∃ I:St->Hp->Prop,t { D with nx:=I } σ H/\∀ σ' H',I σ' H'->u D σ' H'
theorem XC {X:Cx}{st:Stmt}{rest:List Stmt}{t u:TS}(h1:PS X st t)(h2:PSs X rest u):PSs X (st::rest) (tCut t u):=by
 intro pins s σ H D I h
 obtain ⟨J,h,g⟩:=h
 refine Sn (Zs (h1 pins s σ H { D with nx:=J } I h) fun f s1 q=>?_)
 cases f with
 | next =>
  obtain ⟨σ',H',I',q⟩:=q
  exact h2 pins s1 σ' H' D I' (g _ _ q)
 | ret v=>exact q
 | brk=>exact q
 | cont=>exact q
end L2
namespace L2
open PySem PySem.Spec PyProof.Rows
theorem zs2 {a1 a2:TS}{D:YA}{σ:St}{H:Hp}(h:let D0:YA:=D;let S:St:=σ;let N1:St->Hp->Prop:=a2 D0;a1 { D0 with nx:=N1 } S H):(Yb a1 a2) D σ H:=h
theorem zs3 {a1 a2 a3:TS}{D:YA}{σ:St}{H:Hp}(h:let D0:YA:=D;let S:St:=σ;let N2:St->Hp->Prop:=a3 D0;let N1:St->Hp->Prop:=a2 { D0 with nx:=N2 };a1 { D0 with nx:=N1 } S H):(Yb a1 (Yb a2 a3)) D σ H:=h
theorem zs4 {a1 a2 a3 a4:TS}{D:YA}{σ:St}{H:Hp}(h:let D0:YA:=D;let S:St:=σ;let N3:St->Hp->Prop:=a4 D0;let N2:St->Hp->Prop:=a3 { D0 with nx:=N3 };let N1:St->Hp->Prop:=a2 { D0 with nx:=N2 };a1 { D0 with nx:=N1 } S H):(Yb a1 (Yb a2 (Yb a3 a4))) D σ H:=h
theorem zs5 {a1 a2 a3 a4 a5:TS}{D:YA}{σ:St}{H:Hp}(h:let D0:YA:=D;let S:St:=σ;let N4:St->Hp->Prop:=a5 D0;let N3:St->Hp->Prop:=a4 { D0 with nx:=N4 };let N2:St->Hp->Prop:=a3 { D0 with nx:=N3 };let N1:St->Hp->Prop:=a2 { D0 with nx:=N2 };a1 { D0 with nx:=N1 } S H):(Yb a1 (Yb a2 (Yb a3 (Yb a4 a5)))) D σ H:=h
theorem zs6 {a1 a2 a3 a4 a5 a6:TS}{D:YA}{σ:St}{H:Hp}(h:let D0:YA:=D;let S:St:=σ;let N5:St->Hp->Prop:=a6 D0;let N4:St->Hp->Prop:=a5 { D0 with nx:=N5 };let N3:St->Hp->Prop:=a4 { D0 with nx:=N4 };let N2:St->Hp->Prop:=a3 { D0 with nx:=N3 };let N1:St->Hp->Prop:=a2 { D0 with nx:=N2 };a1 { D0 with nx:=N1 } S H):(Yb a1 (Yb a2 (Yb a3 (Yb a4 (Yb a5 a6))))) D σ H:=h
theorem zs8 {a1 a2 a3 a4 a5 a6 a7 a8:TS}{D:YA}{σ:St}{H:Hp}(h:let D0:YA:=D;let S:St:=σ;let N7:St->Hp->Prop:=a8 D0;let N6:St->Hp->Prop:=a7 { D0 with nx:=N7 };let N5:St->Hp->Prop:=a6 { D0 with nx:=N6 };let N4:St->Hp->Prop:=a5 { D0 with nx:=N5 };let N3:St->Hp->Prop:=a4 { D0 with nx:=N4 };let N2:St->Hp->Prop:=a3 { D0 with nx:=N3 };let N1:St->Hp->Prop:=a2 { D0 with nx:=N2 };a1 { D0 with nx:=N1 } S H):(Yb a1 (Yb a2 (Yb a3 (Yb a4 (Yb a5 (Yb a6 (Yb a7 a8))))))) D σ H:=h
theorem zs9 {a1 a2 a3 a4 a5 a6 a7 a8 a9:TS}{D:YA}{σ:St}{H:Hp}(h:let D0:YA:=D;let S:St:=σ;let N8:St->Hp->Prop:=a9 D0;let N7:St->Hp->Prop:=a8 { D0 with nx:=N8 };let N6:St->Hp->Prop:=a7 { D0 with nx:=N7 };let N5:St->Hp->Prop:=a6 { D0 with nx:=N6 };let N4:St->Hp->Prop:=a5 { D0 with nx:=N5 };let N3:St->Hp->Prop:=a4 { D0 with nx:=N4 };let N2:St->Hp->Prop:=a3 { D0 with nx:=N3 };let N1:St->Hp->Prop:=a2 { D0 with nx:=N2 };a1 { D0 with nx:=N1 } S H):(Yb a1 (Yb a2 (Yb a3 (Yb a4 (Yb a5 (Yb a6 (Yb a7 (Yb a8 a9)))))))) D σ H:=h
theorem zs11 {a1 a2 a3 a4 a5 a6 a7 a8 a9 a10 a11:TS}{D:YA}{σ:St}{H:Hp}(h:let D0:YA:=D;let S:St:=σ;let N10:St->Hp->Prop:=a11 D0;let N9:St->Hp->Prop:=a10 { D0 with nx:=N10 };let N8:St->Hp->Prop:=a9 { D0 with nx:=N9 };let N7:St->Hp->Prop:=a8 { D0 with nx:=N8 };let N6:St->Hp->Prop:=a7 { D0 with nx:=N7 };let N5:St->Hp->Prop:=a6 { D0 with nx:=N6 };let N4:St->Hp->Prop:=a5 { D0 with nx:=N5 };let N3:St->Hp->Prop:=a4 { D0 with nx:=N4 };let N2:St->Hp->Prop:=a3 { D0 with nx:=N3 };let N1:St->Hp->Prop:=a2 { D0 with nx:=N2 };a1 { D0 with nx:=N1 } S H):(Yb a1 (Yb a2 (Yb a3 (Yb a4 (Yb a5 (Yb a6 (Yb a7 (Yb a8 (Yb a9 (Yb a10 a11)))))))))) D σ H:=h
end L2
namespace K36
open PySem L2
def top (i:Nat):Stmt:=SG.main.body.getD i (.Pass ⟨0,0,0,0⟩)
abbrev c_RoadError___init__:Stmt:=Zw (top 2) 0
abbrev s_alike:Stmt:=top 22
abbrev s_mark:Stmt:=top 23
abbrev s_digit:Stmt:=top 24
abbrev s_leaf_of:Stmt:=top 29
abbrev s_fork_of:Stmt:=top 30
abbrev s_parts_in:Stmt:=top 31
abbrev s_pairs_in:Stmt:=top 32
abbrev s_has_mark:Stmt:=top 33
abbrev c_Store___init__:Stmt:=Zw (top 39) 0
abbrev c_Store_empty:Stmt:=Zw (top 39) 1
abbrev c_Store_put:Stmt:=Zw (top 39) 2
abbrev c_Store_without:Stmt:=Zw (top 39) 3
abbrev c_Store_looked:Stmt:=Zw (top 39) 4
abbrev c_Store_way:Stmt:=Zw (top 39) 7
abbrev c_Store_made:Stmt:=Zw (top 39) 9
abbrev c_Store_check_table:Stmt:=Zw (top 39) 10
abbrev c_Store_keep:Stmt:=Zw (top 39) 12
abbrev c_Store_as_table:Stmt:=Zw (top 39) 13
abbrev c_Store_put_in:Stmt:=Zw (top 39) 14
abbrev c_Store_fork_parts:Stmt:=Zw (top 39) 15
abbrev c_Store_taken_from:Stmt:=Zw (top 39) 16
abbrev c_Roads___init__:Stmt:=Zw (top 41) 0
abbrev c_Roads_put:Stmt:=Zw (top 41) 1
abbrev c_Roads_clear:Stmt:=Zw (top 41) 2
abbrev c_Roads_ahead:Stmt:=Zw (top 41) 4
abbrev c_Roads_step:Stmt:=Zw (top 41) 5
abbrev c_Roads_table:Stmt:=Zw (top 41) 11
abbrev c_Roads_looked:Stmt:=Zw (top 41) 12
abbrev c_Roads_check_place:Stmt:=Zw (top 41) 18
abbrev c_Roads_go_on:Stmt:=Zw (top 41) 20
abbrev c_Tokens___init__:Stmt:=Zw (top 43) 0
abbrev c_Tokens_make:Stmt:=Zw (top 43) 1
abbrev c_Tokens_described:Stmt:=Zw (top 43) 2
abbrev c_Tokens_use:Stmt:=Zw (top 43) 3
abbrev c_Tokens_open_in:Stmt:=Zw (top 43) 4
abbrev c_Tokens_last_open:Stmt:=Zw (top 43) 5
abbrev c_Tokens_check_token:Stmt:=Zw (top 43) 6
abbrev c_Tokens_check_back:Stmt:=Zw (top 43) 7
abbrev c_Hall___init__:Stmt:=Zw (top 45) 0
abbrev c_Hall_declare:Stmt:=Zw (top 45) 1
abbrev c_Hall_roads:Stmt:=Zw (top 45) 3
abbrev c_Hall_place:Stmt:=Zw (top 45) 5
abbrev c_Hall_now:Stmt:=Zw (top 45) 6
abbrev c_Hall_set_to:Stmt:=Zw (top 45) 11
abbrev c_Hall_back:Stmt:=Zw (top 45) 12
abbrev c_Hall_token:Stmt:=Zw (top 45) 13
abbrev c_Hall_look:Stmt:=Zw (top 45) 16
abbrev c_Hall_look_or:Stmt:=Zw (top 45) 17
abbrev c_Hall_look_in:Stmt:=Zw (top 45) 18
abbrev c_Hall_check_world:Stmt:=Zw (top 45) 20
abbrev c_Hall_check_setting:Stmt:=Zw (top 45) 21
abbrev c_Hall_value_in:Stmt:=Zw (top 45) 22
abbrev c_Hall_value_or_default:Stmt:=Zw (top 45) 23
abbrev s_l_cell_at:Stmt:=top 47
abbrev s_l_box:Stmt:=top 48
abbrev s_l_take:Stmt:=top 49
abbrev s_l_names:Stmt:=top 50
abbrev s_l_value:Stmt:=top 51
abbrev s_l_told:Stmt:=top 52
abbrev s_l_value_of:Stmt:=top 53
abbrev s_l_state_right:Stmt:=top 54
abbrev s_l_back_right:Stmt:=top 55
abbrev s_law:Stmt:=top 56
section
variable {P:Qk}{w:Qv}{K:Qa}{mg:Str->Option Qb}{base:Heap}
theorem scC:Zm ["_law_script","_law_k"] ["_law_script","_law_k"] (Zj s_l_cell_at):=⟨rfl,rfl,rfl,by decide +kernel,rfl,by decide +kernel,by decide +kernel⟩
theorem ZkH {f:Addr}{fd:Qm}(F:Fun K "_law_cell_at" "_law_cell_at" s_l_cell_at f fd)(T:ZY mg):FnOk P w K mg base ZC 1 f fd ["_law_script","_law_k"] (Ziz K):=by
 refine F.ok scC (fun vs H Q E h=>?_) (fun cdv A outer s H vs Q E hr h=>?_)
 ·obtain ⟨a,ns,k,rfl,_⟩:=h;rfl
 obtain ⟨a,ns,k,rfl,hS,h0,q⟩:=h
 refine ⟨_,Ze (ZZ (ZL Zbk (pv 1) (Zr ZO rfl T.len QM (Yv (pv 0) Za)) (ZJ _)) (Zh (Zq (Zz ZB (pv 0) (pv 1) (fun _ _=>rfl)))) ZM)
  (Zh (Zq Zi)),?_⟩
 refine ⟨_,rfl,_,rfl,a,_,rfl,.inl hS,_,_,rfl,rfl,_,rfl,?_⟩
 refine XJ (fun c=>?_) (fun c=>?_)
 ·have c':k < (((ns.map V.int).length:Nat):Int):=of_decide_eq_true c
  rw [length_map] at c'
  have hk:k.toNat < ns.length:=by omega
  have ek:k=((k.toNat:Nat):Int):=by omega
  have hat:YH (ns.map V.int) k=some (.int ns[k.toNat]):=by
   have z:YH (ns.map V.int) ((k.toNat:Nat):Int)=some (.int ns[k.toNat]):=ZE (by rw [getElem?_map,getElem?_eq_getElem hk];rfl)
   rwa [<- ek] at z
  exact ⟨_,rfl,_,rfl,a,_,_,_,rfl,rfl,hS,hat,q _⟩
 ·exact q 0
theorem scB:Zm ["_law_script","_law_k","_law_cell"] ["_law_script","_law_k"] (Zj s_l_box):=⟨rfl,rfl,rfl,by decide +kernel,rfl,by decide +kernel,by decide +kernel⟩
theorem ZnZ {f:Addr}{fd:Qm}(F:Fun K "_law_box" "_law_box" s_l_box f fd)(T:ZY mg)(D:Def P w K mg base 1 "_law_cell_at" ["_law_script","_law_k"] (Ziz K)):FnOk P w K mg base ZC 2 f fd ["_law_script","_law_k"] (Zkr K):=by
 refine F.ok scB (fun vs H Q E h=>?_) (fun cdv A outer s H vs Q E hr h=>?_)
 ·obtain ⟨a,ns,k,rfl,_⟩:=h;rfl
 obtain ⟨a,ns,k,rfl,hS,h0,h1,q⟩:=h
 refine ⟨_,Ze (Zv (i:=2) scB.nd rfl (Qz rfl) (ZI D hr (Yv (pv 0) (Yv (pv 1) Za))))
  (Zh (Zq (ZX (Yv (Zx We (Zr ZeF rfl T.abs (by decide +kernel) (Yv (pv 2) Za)) (YN ZhW rfl T.int (by decide +kernel) (Yv (Wv Zpc (Zr ZeF rfl T.abs (by decide +kernel) (Yv (pv 2) Za)) (Zx ZbQ Zi Zi) (ZJ _)) Za)))
   (Yv (Zx YI (Zx YI (Zx XU (pv 2) Zi) (Zx We Zi (pv 1))) Zi) (Yv Zi Za)))))),?_⟩
 refine ⟨_,rfl,_,rfl,a,ns,k,rfl,hS,h0,fun r=>?_⟩
 refine ⟨_,rfl,_,rfl,⟨_,rfl,_,rfl,_,_,rfl,rfl,⟨by decide,by decide,by decide⟩,_,_,rfl,rfl,.inr ⟨_,rfl,?_⟩⟩⟩
 generalize hb:decide ((10:Int) ^ (Int.toNat 18)<=(if r < 0 then -r else r))=bb
 refine ⟨_,_,rfl,rfl,.inr (by cases bb<;>exact ⟨by decide,by decide⟩),_,rfl,_,_,rfl,rfl,(by show (0:Int) < _;decide),_,rfl,_,_,rfl,rfl,.inl ⟨by decide,by decide⟩,_,_,rfl,rfl,_,_,rfl,rfl,(by show 3<=Qi;decide),fun p hp=>?_⟩
 refine q p _ hp ⟨_,_,0,Zf,?_,by decide,by decide⟩ (Zk hp _)
 cases bb
 ·simp
 ·simp only [if_true,Int.mul_one];split<;>omega
theorem scT:Zm ["_law_box_here","_law_many","_law_found","_law_once","_law_twice"] ["_law_box_here","_law_many"] (Zj s_l_take):=⟨rfl,rfl,rfl,by decide +kernel,rfl,by decide +kernel,by decide +kernel⟩
theorem ZkU {f:Addr}{fd:Qm}(F:Fun K "_law_take" "_law_take" s_l_take f fd):FnOk P w K mg base ZC 1 f fd ["_law_box_here","_law_many"] (Zbj 4611686018427387904):=by
 refine F.ok scT (fun vs H Q E h=>?_) (fun cdv A outer s H vs Q E hr h=>?_)
 · obtain ⟨p,n,m,rfl,_⟩:=h;rfl
 obtain ⟨p,n,m,rfl,⟨a,b,c,hp,ha,hc,hcn⟩,hn,hm0,hmM,q⟩:=h
 refine ⟨_,Ze (ZZ (ZL Zpe (Zz ZB (pv 0) Zi (fun _ _=>rfl)) Zi (ZJ _))
     (Ze (Zv (i:=2) scT.nd rfl (Qz rfl) (Zx XU (Zz ZB (pv 0) Zi (fun _ _=>rfl)) (pv 1)))
       (Ze (Yu (Zx ZjM (Zz ZB (pv 0) Zi (fun _ _=>rfl)) (pv 1)) (Wm (pv 0) Zi Xi)) (Zh (Zq (pv 2))))) ZM)
   (Ze (Yu (Zx YI (Zz ZB (pv 0) Zi (fun _ _=>rfl)) Zi) (Wm (pv 0) Zi Xi))
   (Ze (Zv (i:=3) scT.nd rfl (Qz rfl) (Zx XU (Zx We (Zx YI (Zz ZB (pv 0) Zi (fun _ _=>rfl)) (Zx We Zi (Zz ZB (pv 0) Zi (fun _ _=>rfl)))) (Zx YI Zi (Zz ZB (pv 0) Zi (fun _ _=>rfl)))) Zi))
   (Ze (Zv (i:=4) scT.nd rfl (Qz rfl) (Zx XU (Zx We (Zx YI (pv 3) (Zz ZB (pv 0) Zi (fun _ _=>rfl))) (Zx YI (Zx XU (pv 3) Zi) Zi)) Zi))
   (Zh (Zq (Zx XU (Zx ZfE (Zx XU (Zx YI (Zx We (pv 4) Zi) (pv 3)) Zi) Zi) (pv 1))))))),?_⟩
 refine ⟨_,rfl,p,_,_,_,rfl,rfl,SqL.of hp,rfl,_,_,rfl,rfl,_,rfl,?_⟩
 refine XJ (fun c'=>?_) (fun c'=>?_)
 · have h0:0 < a:=of_decide_eq_true c'
   refine ⟨_,rfl,p,_,_,_,rfl,rfl,SqL.of hp,rfl,_,rfl,_,_,rfl,rfl,hm0,?_⟩
   refine ⟨_,rfl,p,_,_,_,rfl,rfl,SqL.of hp,rfl,_,rfl,_,_,rfl,rfl,⟨hm0,by have h4:m < 4611686018427387904:=hmM;omega⟩,?_⟩
   refine ⟨_,rfl,p,_,_,_,rfl,rfl,hp,rfl,?_⟩
   refine ⟨_,rfl,?_⟩
   exact q _ _ (GF _ (by omega)) (Gy _ hm0) ⟨a / m,b,c,Zf,Int.ediv_nonneg ha (by omega),hc,by omega⟩ (Kp.upd _ _ _)
 · refine ⟨_,rfl,p,_,_,_,rfl,rfl,SqL.of hp,rfl,_,_,rfl,rfl,?_⟩
   refine ⟨_,rfl,p,_,_,_,rfl,rfl,hp,rfl,?_⟩
   have hp1:upd H p (.lst [.int a,.int b,.int (c+1)]) p=some (.lst [.int a,.int b,.int (c+1)]):=Zf
   refine ⟨_,rfl,p,_,_,_,rfl,rfl,SqL.of hp1,rfl,_,rfl,p,_,_,_,rfl,rfl,SqL.of hp1,rfl,_,_,rfl,rfl,.inl ⟨by decide,by decide⟩,_,_,rfl,rfl,_,rfl,p,_,_,_,rfl,rfl,SqL.of hp1,rfl,_,_,rfl,rfl,_,_,rfl,rfl,.inr ⟨by omega,by omega⟩,_,_,rfl,rfl,(by show (0:Int) < _;decide),?_⟩
   generalize hO:((b+48271 * (c+1)) * (39373+(c+1))) % 2147483647=once
   have hO0:0<=once:=by rw [<- hO];exact GF _ (by decide)
   refine ⟨_,rfl,_,rfl,p,_,_,_,rfl,rfl,SqL.of hp1,rfl,_,_,rfl,rfl,_,rfl,_,_,rfl,rfl,(by show (0:Int) < _;decide),_,_,rfl,rfl,_,_,rfl,rfl,.inr ?_,_,_,rfl,rfl,(by show (0:Int) < _;decide),?_⟩
   · have:=GF once (show (40009:Int)≠0 by decide)
     have:=Gy once (show (0:Int) < 40009 by decide)
     exact ⟨by omega,by omega⟩
   generalize hW:((once+(c+1)) * (once % 40009+7)) % 2147483629=twice
   refine ⟨_,rfl,_,_,rfl,rfl,.inr ⟨by decide,by decide⟩,_,rfl,_,_,rfl,rfl,_,_,rfl,rfl,(by show (0:Int) < _;decide),_,_,rfl,rfl,⟨by decide,by decide⟩,_,rfl,_,_,rfl,rfl,hm0,?_⟩
   exact q _ _ (GF _ (by omega)) (Gy _ hm0) ⟨a,b,c+1,hp1,ha,by omega,by omega⟩ (Kp.upd _ _ _)
end
structure Txt (K:Qa)(mg:Str->Option Qb):Prop extends ZY mg where
 base:∃ t,mg "BASE"=some (.int 4 t)
 zero:∃ t,mg "BARE_NUMBER"=some (.int 0 t)
 bare:∃ a,mg "BARE"=some (.ref a)/\∀ H,SqT K H a [.str "bare"]
 figs:∃ a,mg "FIGURES"=some (.ref a)/\∀ H,SqT K H a [.int 0,.int 1,.int 2,.int 3]
section
variable {P:Qk}{w:Qv}{K:Qa}{mg:Str->Option Qb}{base:Heap}
def Wt (l:List Nat):Nat->Int
 | 0=>0
 | i+1=>Wt l i+((i:Int)+1) * (((l.getD i 0:Nat):Int) - 97+1)
def WH:Sp:=fun vs H Q _=>∃ x:Str,vs=[.str x]/\x.length<=1000/\∀ H',Same H H'->Q (.int (Wt x.cps.toList x.length)) H'
def Ws:Sp:=fun vs H Q _=>∃(n:Int)(k:Nat),vs=[.int n,.int k]/\0<=n/\k<=1000/\Q (.int (n / 4 ^ k % 4)) H
theorem oa:(QA "a").cps.getD 0 0=97:=by decide +kernel
theorem scM:Zm ["name","total","place","letter"] ["name"] (Zj s_mark):=⟨rfl,rfl,rfl,by decide +kernel,rfl,by decide +kernel,by decide +kernel⟩
theorem ZlJ {f:Addr}{fd:Qm}(F:Fun K "mark" "mark" s_mark f fd)(T:Txt K mg):FnOk P w K mg base ZC 1 f fd ["name"] WH:=by
 refine F.ok scM (fun vs H Q E h=>?_) (fun cdv A outer s H vs Q E hr h=>?_)
 ·obtain ⟨x,rfl,_⟩:=h;rfl
 obtain ⟨x,rfl,hx,q⟩:=h
 refine' ⟨?t,?h,?r⟩
 case h =>
  conv=>arg 2;whnf
  with_reducible refine' Ze ?a1 (Ze ?a2 (Zh ?a3))
  case a1=>exact Zv (i:=1) scM.nd rfl (Qz rfl) Zi
  case a2=>exact WJ Gi rfl (Zjz rfl T.enumerate (pv 0)) (Xz rfl (ZF (ZA (i:=2) scM.nd rfl (Qz rfl)) (ZF (ZA (i:=3) scM.nd rfl (Qz rfl)) Xb))) (Zh (Zmq (i:=1) scM.nd rfl (Qz rfl) (Zx We (pv 2) (Zx YI (Zx Xt (Zr ZdE rfl T.ord (by decide +kernel) (Zb (pv 3) Za)) (Zr ZdE rfl T.ord (by decide +kernel) (Zb ZS Za))) Zi)) Zok))
  case a3=>exact Zq (pv 1)
 refine ⟨_,rfl,x,rfl,?_⟩
 refine ZiT (fun i σ H'=>∃ y2 y3,σ=[some (.str x),some (.int (Wt x.cps.toList i)),y2,y3]/\Same H H'/\i<=x.cps.size) ⟨_,_,rfl,Same.refl H,QC _⟩ ?_ ?_
 ·rintro i c t σ H1 hc ht ⟨y2,y3,rfl,s1,hi⟩
  have hi':i < x.cps.size:=(Ga.mp hc).1
  have hz:x.cps.size<=1000:=hx
  refine ⟨t,_,rfl,SqT.of Zf,rfl,_,_,rfl,_,_,rfl,rfl,?_⟩
  refine ⟨_,rfl,_,rfl,_,rfl,_,rfl,rfl,_,rfl,rfl,_,_,rfl,rfl,_,_,rfl,rfl,_,_,rfl,rfl,.inl ⟨by omega,by omega⟩,_,_,rfl,rfl,?_⟩
  have e:Wt x.cps.toList (i+1)=Wt x.cps.toList i+((i:Int)+1) * ((((⟨#[c]⟩:Str).cps.getD 0 0:Nat):Int) - (((QA "a").cps.getD 0 0:Nat):Int)+1):=by
   rw [oa]
   show Wt x.cps.toList i+((i:Int)+1) * (((x.cps.toList.getD i 0:Nat):Int) - 97+1)=Wt x.cps.toList i+((i:Int)+1) * ((c:Int) - 97+1)
   have e1:x.cps.toList.getD i 0=c:=by rw [getD_eq_getElem?_getD,Jt,hc];rfl
   rw [e1]
  exact ⟨some (.int ((i:Int)+1)),some (.str ⟨#[c]⟩),by rw [e];rfl,s1.trans (Zk ht _),hi'⟩
 ·rintro σ H1 ⟨y2,y3,rfl,s1,_⟩
  exact ⟨_,rfl,q H1 s1⟩
theorem scDg:Zm ["number","level","below"] ["number","level"] (Zj s_digit):=⟨rfl,rfl,rfl,by decide +kernel,rfl,by decide +kernel,by decide +kernel⟩
theorem Zji {f:Addr}{fd:Qm}(F:Fun K "digit" "digit" s_digit f fd)(T:Txt K mg):FnOk P w K mg base ZC 1 f fd ["number","level"] Ws:=by
 refine F.ok scDg (fun vs H Q E h=>?_) (fun cdv A outer s H vs Q E hr h=>?_)
 ·obtain ⟨n,k,rfl,_⟩:=h;rfl
 obtain ⟨n,k,rfl,hn,hk,q⟩:=h
 obtain ⟨tb,hb⟩:=T.base
 refine' ⟨?t,?h,?r⟩
 case h =>
  conv=>arg 2;whnf
  with_reducible refine' Ze ?a1 (Zh ?a2)
  case a1=>exact WJ Gi rfl (Xx rfl T.range (Zb (pv 1) Za)) (ZA (i:=2) scDg.nd rfl (Qz rfl)) (Zh (Zv (i:=0) scDg.nd rfl (Qz rfl) (Zx ZfE (pv 0) (ZR rfl hb (v:=.int 4) ⟨_,rfl⟩))))
  case a2=>exact Zq (Zx XU (pv 0) (ZR rfl hb (v:=.int 4) ⟨_,rfl⟩))
 refine ⟨_,rfl,k,rfl,by omega,by omega,?_⟩
 have ek:(k:Int).toNat=k:=by omega
 rw [ek]
 refine Uy (fun i σ H'=>∃ y,σ=[some (.int (n / 4 ^ i)),some (.int k),y]/\H'=H) ⟨_,by rw [Int.pow_zero,OW];rfl,rfl⟩ ?_ ?_
 ·rintro i σ H1 hi ⟨y,rfl,rfl⟩
  have e:n / 4 ^ (i+1)=n / 4 ^ i / 4:=by rw [Int.pow_succ,<- Int.ediv_ediv_of_nonneg (Int.pow_nonneg (by decide))]
  exact ⟨_,rfl,_,_,rfl,rfl,⟨by decide,by decide⟩,some (.int (0+(i:Int))),by rw [e];rfl,rfl⟩
 ·rintro σ H1 ⟨y,rfl,rfl⟩
  exact ⟨_,rfl,_,_,rfl,rfl,(by show (0:Int) < 4;decide),q⟩
theorem nbf:decide (V.str (QA "bare")=V.str (QA "fork"))=false:=by decide +kernel
theorem nlf:decide (V.str (QA "leaf")=V.str (QA "fork"))=false:=by decide +kernel
theorem nbl:decide (V.str (QA "bare")=V.str (QA "leaf"))=false:=by decide +kernel
theorem nfl:decide (V.str (QA "fork")=V.str (QA "leaf"))=false:=by decide +kernel
theorem scPi:Zm ["node"] ["node"] (Zj s_parts_in):=⟨rfl,rfl,rfl,by decide +kernel,rfl,by decide +kernel,by decide +kernel⟩
theorem ZiO {f:Addr}{fd:Qm}(F:Fun K "parts_in" "parts_in" s_parts_in f fd):FnOk P w K mg base ZC 1 f fd ["node"] (UW K):=by
 refine F.ok scPi (fun vs H Q E h=>?_) (fun cdv A outer s H vs Q E hr h=>?_)
 ·obtain ⟨a,n,rfl,_⟩:=h;rfl
 obtain ⟨a,n,rfl,hn,q⟩:=h
 refine ⟨_,Zh (Zq (Yo (ZL Yx (Zz YF (pv 0) Zi (fun _ _=>rfl)) ZS (ZJ _)) (Zz YF (pv 0) Zi (fun _ _=>rfl)) ZfD)),?_⟩
 cases n with
 | bare =>
  refine ⟨_,rfl,a,_,_,_,rfl,rfl,hn,rfl,rfl,_,rfl,?_⟩
  rw [nbf]
  exact ZP fun p o hp hd=>q p _ (Zk hp _) (.inl (.inr ⟨o,Zf⟩))
 | leaf m ps =>
  obtain ⟨t,e,_⟩:=hn
  refine ⟨_,rfl,a,_,_,_,rfl,rfl,e,rfl,rfl,_,rfl,?_⟩
  rw [nlf]
  exact ZP fun p o hp hd=>q p _ (Zk hp _) (.inl (.inr ⟨o,Zf⟩))
 | fork qs =>
  obtain ⟨t,e,e2,_⟩:=hn
  refine ⟨_,rfl,a,_,_,_,rfl,rfl,e,rfl,rfl,_,rfl,?_⟩
  rw [decide_eq_true rfl]
  exact Yk ⟨_,rfl,a,_,_,_,rfl,rfl,e,rfl,q t H (Same.refl H) e2⟩
theorem scPr:Zm ["node"] ["node"] (Zj s_pairs_in):=⟨rfl,rfl,rfl,by decide +kernel,rfl,by decide +kernel,by decide +kernel⟩
theorem ZjI {f:Addr}{fd:Qm}(F:Fun K "pairs_in" "pairs_in" s_pairs_in f fd):FnOk P w K mg base ZC 1 f fd ["node"] (WB K):=by
 refine F.ok scPr (fun vs H Q E h=>?_) (fun cdv A outer s H vs Q E hr h=>?_)
 ·obtain ⟨a,n,rfl,_⟩:=h;rfl
 obtain ⟨a,n,rfl,hn,q⟩:=h
 refine ⟨_,Zh (Zq (Yo (ZL Yx (Zz YF (pv 0) Zi (fun _ _=>rfl)) ZS (ZJ _)) (Zz YF (pv 0) Zi (fun _ _=>rfl)) ZfD)),?_⟩
 have nil:∀ p o,H p=none->o.dict=none->PairsAt (upd H p (.frz o (.tup []))) p []:=fun p o hp hd=>⟨o,[],Zf,hd,rfl,fun i a p e=>by simp at e⟩
 cases n with
 | bare =>
  refine ⟨_,rfl,a,_,_,_,rfl,rfl,hn,rfl,rfl,_,rfl,?_⟩
  rw [nbl]
  exact ZP fun p o hp hd=>q p _ (Zk hp _) (nil p o hp hd)
 | fork qs =>
  obtain ⟨t,e,_⟩:=hn
  refine ⟨_,rfl,a,_,_,_,rfl,rfl,e,rfl,rfl,_,rfl,?_⟩
  rw [nfl]
  exact ZP fun p o hp hd=>q p _ (Zk hp _) (nil p o hp hd)
 | leaf m ps =>
  obtain ⟨t,e,e2⟩:=hn
  refine ⟨_,rfl,a,_,_,_,rfl,rfl,e,rfl,rfl,_,rfl,?_⟩
  rw [decide_eq_true rfl]
  exact Yk ⟨_,rfl,a,_,_,_,rfl,rfl,e,rfl,q t H (Same.refl H) e2⟩
theorem scHm:Zm ["node","number"] ["node","number"] (Zj s_has_mark):=⟨rfl,rfl,rfl,by decide +kernel,rfl,by decide +kernel,by decide +kernel⟩
theorem ZlE {f:Addr}{fd:Qm}(F:Fun K "has_mark" "has_mark" s_has_mark f fd):FnOk P w K mg base ZC 1 f fd ["node","number"] (VL K):=by
 refine F.ok scHm (fun vs H Q E h=>?_) (fun cdv A outer s H vs Q E hr h=>?_)
 ·obtain ⟨a,n,m,rfl,_⟩:=h;rfl
 obtain ⟨a,n,m,rfl,hn,q⟩:=h
 refine ⟨_,Zh (Zq (Zij (Wv Yx (Zz YF (pv 0) Zi (fun _ _=>rfl)) ZS (ZJ _)) (Zhc (Wv Yx (Zz YF (pv 0) Zi (fun _ _=>rfl)) (pv 1) (ZJ _))))),?_⟩
 cases n with
 | bare =>
  refine ⟨_,rfl,a,_,_,_,rfl,rfl,hn,rfl,rfl,_,rfl,?_⟩
  rw [nbl]
  exact ZP q
 | fork qs =>
  obtain ⟨t,e,_⟩:=hn
  refine ⟨_,rfl,a,_,_,_,rfl,rfl,e,rfl,rfl,_,rfl,?_⟩
  rw [nfl]
  exact ZP q
 | leaf m' ps =>
  obtain ⟨t,e,e2⟩:=hn
  refine ⟨_,rfl,a,_,_,_,rfl,rfl,e,rfl,rfl,_,rfl,?_⟩
  rw [decide_eq_true rfl]
  refine Yk ⟨_,rfl,a,_,_,_,rfl,rfl,e,rfl,_,rfl,rfl,?_⟩
  have:decide (V.int m'=V.int m)=decide (m'=m):=by
   by_cases z:m'=m
   ·subst z;rw [decide_eq_true rfl,decide_eq_true rfl]
   ·rw [decide_eq_false z,decide_eq_false (fun y=>z (by cases y;rfl))]
  rw [this]
  exact q
theorem scFo:Zm ["parts"] ["parts"] (Zj s_fork_of):=⟨rfl,rfl,rfl,by decide +kernel,rfl,by decide +kernel,by decide +kernel⟩
theorem ZhB {f:Addr}{fd:Qm}(F:Fun K "fork_of" "fork_of" s_fork_of f fd)(T:Txt K mg):FnOk P w K mg base ZC 1 f fd ["parts"] (Uf K):=by
 refine F.ok scFo (fun vs H Q E h=>?_) (fun cdv A outer s H vs Q E hr h=>?_)
 ·obtain ⟨l,qs,rfl,_⟩:=h;rfl
 obtain ⟨l,qs,rfl,el,h4,q⟩:=h
 refine ⟨_,Zh (Zq (Yi (Zb ZS (Zb (YN Zdd rfl T.tuple (by decide +kernel) (Zb (pv 0) Za)) Za)))),?_⟩
 refine ⟨_,rfl,l,_,rfl,.inl ⟨SqL.of el,fun t ht=>⟨(by show 2<=Qi;decide),fun a ha=>?_⟩⟩⟩
 exact q a _ ((Zk ht _).trans (Zk ha _)) ⟨t,SqT.of Zf,SqT.of (Zk ha _ _ _ Zf),h4⟩
def pvl (H:Hp)(a:Addr):V:=match H a with
 | some (.tup [_,v])=>v
 | _=>.non
def Zch (ps:List (Str×V)):Prop:=ps.Pairwise fun p q=>¬ (q.1.cps.toList < p.1.cps.toList)
theorem ZhN {H:Hp}{ts ts':List Addr}{ps:List (Str×V)}(h:PairT H ts ps)(o:ZgG (ps.map (·.1)) ts ts'):∃ ps',ps'.Perm ps/\Zch ps'/\PairT H ts' ps':=by
 obtain ⟨zs,hp,e,hs⟩:=o
 have val:∀ (i:Nat) (a:Addr) (p:Str×V),ts[i]?=some a->ps[i]?=some p->pvl H a=p.2:=fun i a p e1 e2=>by unfold pvl;rw [h.2 i a p e1 e2]
 have hz:((ps.map (·.1)).zip ts).map (fun z=>(z.1,pvl H z.2))=ps:=by
  apply Sd
  intro i
  rw [getElem?_map]
  cases e2:ps[i]? with
  | none =>
   have:((ps.map (·.1)).zip ts)[i]?=none:=by
    rw [TQ] at e2 ⊢
    rw [JV,length_map];omega
   rw [this];rfl
  | some p =>
   have hi:i < ps.length:=(Qf.mp e2).1
   obtain ⟨a,ea⟩:∃ a,ts[i]?=some a:=⟨_,getElem?_eq_getElem (by rw [h.1];exact hi)⟩
   have:((ps.map (·.1)).zip ts)[i]?=some (p.1,a):=by
    rw [getElem?_zip_eq_some]
    exact ⟨by rw [getElem?_map,e2];rfl,ea⟩
   rw [this]
   show some (p.1,pvl H a)=some p
   rw [val i a p ea e2]
 refine ⟨zs.map fun z=>(z.1,pvl H z.2),?_,?_,?_⟩
 ·have:=hp.map fun z:Str×Addr=>(z.1,pvl H z.2)
  rwa [hz] at this
 ·unfold Zch;rw [Pm];exact hs
 ·refine ⟨by rw [e,length_map,length_map],fun i a p e1 e2=>?_⟩
  rw [e,getElem?_map] at e1
  rw [getElem?_map] at e2
  cases ez:zs[i]? with
  | none=>rw [ez] at e1;cases e1
  | some z =>
   rw [ez] at e1 e2
   cases (show some z.2=some a from e1)
   cases (show some (z.1,pvl H z.2)=some p from e2)
   have hm:=hp.mem_iff.mp (mem_of_getElem? ez)
   obtain ⟨j,hj⟩:=GR.mp hm
   rw [getElem?_zip_eq_some] at hj
   obtain ⟨h1,h2⟩:=hj
   rw [getElem?_map] at h1
   cases e3:ps[j]? with
   | none=>rw [e3] at h1;cases h1
   | some pj =>
    rw [e3] at h1
    have h1':pj.1=z.1:=by simpa using h1
    have:=h.2 j z.2 pj h2 e3
    rw [this,val j z.2 pj h2 e3,h1']
def Zy (x:Str):Int:=Wt x.cps.toList x.length
def Wf:Str:=(("leaf_of":Str)++".<locals>.")++"<lambda>"
def Zab (K:Qa)(Pl:Addr)(lpos:Pos):Sp:=fun vs H Q _=>∃(l:Addr)(ts:List Addr)(ps:List (Str×V)),vs=[.ref l]/\H l=some (.lst (ts.map V.ref))/\PairT H ts ps/\ps≠[]/\ps.length < 64/\(∀ p∈ps,p.1.length<=1000)/\LamAt H Pl lpos Wf /\
 ∀ (a:Addr) (H':Hp) (p1:Str×V) (pr:List (Str×V)),Grown Pl H H'->LamAt H' Pl lpos Wf->(p1::pr).Perm ps->Zch (p1::pr)->NodeAt K H' a (.leaf (Zy p1.1) (p1::pr))->Q (.ref a) H'
theorem Grown.trans' {Pl:Addr}{H H1 H2:Hp}(a:Grown Pl H H1)(b:Same H1 H2):Grown Pl H H2:=fun x o n h=>b _ _ (a x o n h)
theorem LamAt.same {H H':Hp}{Pl:Addr}{lpos:Pos}{q:Str}(h:LamAt H Pl lpos q)(s:Same H H'):LamAt H' Pl lpos q:=by
 rcases h with h | ⟨c,h,h2⟩
 ·exact .inl (s _ _ h)
 ·exact .inr ⟨c,s _ _ h,s _ _ h2⟩
theorem scLf:Zm ["pairs","rising","first_name"] ["pairs"] (Zj s_leaf_of):=⟨rfl,rfl,rfl,by decide +kernel,rfl,by decide +kernel,by decide +kernel⟩
def ZmW:Stmt->Pos
 | .Assign _ (.Call _ _ [⟨_,.Lambda _ _ _ p,_⟩] _) _=>p
 | _=>⟨0,0,0,0⟩
def YX:Pos:=ZmW ((XB s_leaf_of).getD 0 (.Pass ⟨0,0,0,0⟩))
theorem Zlt {f c Pl:Addr}{fd:Qm}(F:FunC K "leaf_of" "leaf_of" s_leaf_of f fd c Pl)(T:Txt K mg)(hBm:WE base mg)(DM:Def P w K mg base 1 "mark" ["name"] WH):FnOk P w K mg base ZC 2 f fd ["pairs"] (Zab K Pl YX):=by
 refine F.ok scLf (fun vs H Q E h=>?_) (fun A outer s H vs Q E hr h=>?_)
 ·obtain ⟨l,ts,ps,rfl,_⟩:=h;rfl
 obtain ⟨l,ts,ps,rfl,el,hpt,hne,h64,hnl,hL,q⟩:=h
 refine' ⟨?t,?h,?r⟩
 case h =>
  conv=>arg 2;whnf
  with_reducible refine' Ze ?a1 (Ze ?a2 (Zh ?a3))
  case a1=>exact Zv (i:=1) scLf.nd rfl (Qz rfl) (ZiH (c:=c) (Pl:=Pl) rfl T.sorted (pv 0) hr rfl F.hd hBm)
  case a2=>exact Zv (i:=2) scLf.nd rfl (Qz rfl) (Zz YF (Zz ZB (pv 1) Zi (fun _ _=>rfl)) Zi (fun _ _=>rfl))
  case a3=>exact Zq (Yi (Zb ZS (Zb (ZI DM hr (Zb (pv 2) Za)) (Zb (YN ZaC rfl T.tuple (by decide +kernel) (Zb (pv 1) Za)) Za))))
 refine ⟨_,rfl,l,ts,ps.map (·.1),rfl,el,by rw [hpt.1];exact h64,by rw [length_map,hpt.1],fun i t k e1 e2=>?_,hL,fun H2 r ts' gr hL2 hr2 hT=>?_⟩
 ·rw [getElem?_map] at e2
  cases e3:ps[i]? with
  | none=>rw [e3] at e2;cases e2
  | some p =>
   rw [e3] at e2
   have e4:p.1=k:=by simpa using e2
   rw [<- e4]
   exact ⟨_,hpt.2 i t p e1 e3⟩
 obtain ⟨ps',hperm,hsort,hpt'⟩:=ZhN hpt hT
 obtain ⟨tb,htb⟩:=hL.tbl
 have tf2:TF H H2:=gr.tf htb
 have hpt2:=hpt'.tf tf2
 cases ps' with
 | nil=>exact absurd (Nw hperm).symm hne
 | cons p1 pr =>
  cases ts' with
  | nil=>have:=hpt'.1;simp at this
  | cons t1 tr =>
   have e1:=hpt2.2 0 t1 p1 rfl rfl
   have s3:=Zk hr2 (.lst ((t1::tr).map V.ref))
   have hn1:p1.1.length<=1000:=hnl p1 (hperm.mem_iff.mp mem_cons_self)
   refine ⟨_,rfl,r,_,_,_,rfl,rfl,SqL.of Zf,(show YH ((t1::tr).map V.ref) ((0:Nat):Int)=some (V.ref t1) from ZE rfl),t1,_,_,_,rfl,rfl,SqT.of (s3 _ _ e1),rfl,?_⟩
   refine ⟨_,rfl,p1.1,rfl,hn1,fun H4 s4=>⟨_,rfl,r,_,rfl,SqL.of (s4 _ _ Zf),fun t o ht hd=>⟨(by show 3<=Qi;decide),fun a ha=>?_⟩⟩⟩
   have s5:=Zk ht (.frz o (.tup ((t1::tr).map V.ref)))
   have s6:=Zk ha (.tup [.str "leaf",.int (Zy p1.1),.ref t])
   have S:=((s3.trans s4).trans s5).trans s6
   refine q a _ p1 pr (Grown.trans' gr S) (LamAt.same hL2 S) hperm hsort ⟨t,SqT.of Zf,o,t1::tr,s6 _ _ Zf,hd,hpt2.tf S.tf⟩
end
structure Xr (K:Qa)(C:Addr):Prop where
 cl:Cls K C
 nN:NoAttr K C "nodes"
 nT:NoAttr K C "tables"
section
variable {P:Qk}{w:Qv}{K:Qa}{mg:Str->Option Qb}{base:Heap}{C:Addr}
def Zia (K:Qa)(C:Addr):Sp:=fun vs H Q _=>∃(p dx:Addr),vs=[.ref p]/\H p=some (.ins C dx [])/\∀(ln dt:Addr)(H':Hp),H ln=none->H dt=none->StoreAt K C p ln dt H' [.bare] [(QT 0,.bl true)]->Kq [p] H H'->Q .non H'
theorem scIn:Zm ["self"] ["self"] (Zj c_Store___init__):=⟨rfl,rfl,rfl,by decide +kernel,rfl,by decide +kernel,by decide +kernel⟩
theorem ZlU {f:Addr}{fd:Qm}(F:Fun K "__init__" "Store.__init__" c_Store___init__ f fd)(T:Txt K mg)(TC:Xr K C):FnOk P w K mg base ZC 1 f fd ["self"] (Zia K C):=by
 refine F.ok scIn (fun vs H Q E h=>?_) (fun cdv A outer s H vs Q E hr h=>?_)
 ·obtain ⟨p,dx,rfl,_⟩:=h;rfl
 obtain ⟨p,dx,rfl,hp,q⟩:=h
 obtain ⟨ab,hb,hbt⟩:=T.bare
 obtain ⟨tz,hz⟩:=T.zero
 refine ⟨_,Ze (YW (pv 0) (ZX (Zb (ZR rfl hb (v:=.ref ab) rfl) Za)) rfl) (Zh (YW (pv 0) (ZlK (ZiS (ZR rfl hz (v:=.int 0) ⟨_,rfl⟩) YV Zll) rfl rfl (by simp) (by decide)) rfl)),?_⟩
 refine ⟨(by show 1<=Qi;decide),fun ln hln=>?_⟩
 have npl:p≠ln:=Zt hp hln
 refine ⟨_,rfl,p,C,dx,[],rfl,(by rw [Zg npl];exact hp),TC.cl,TC.nN,(by show 0 < 1000;decide),?_⟩
 intro dt hdt
 have npd:p≠dt:=fun z=>by rw [<- z,Zf] at hdt;cases hdt
 have nld:ln≠dt:=fun z=>by rw [<- z,Zg npl.symm,Zf] at hdt;cases hdt
 have hdt0:H dt=none:=by rw [Zg npd.symm,Zg nld.symm] at hdt;exact hdt
 refine ⟨Zf,[(QT 0,.bl true)],rfl,by decide,_,rfl,p,C,dx,_,rfl,(by rw [Zg npd,Zg npd,Zf]),TC.cl,TC.nT,(by show 1 < 1000;decide),?_⟩
 refine q ln dt _ hln hdt0 ⟨⟨dx,Zf⟩,⟨[ab],?_,rfl,fun i a n e1 e2=>?_⟩,?_⟩ fun b o nb e=>?_
 ·rw [Zg npl.symm,Zg nld,Zg nld,Zg npl.symm,Zf];rfl
 ·cases i with
  | zero =>
   cases (show some ab=some a from e1)
   cases (show some Nd.bare=some n from e2)
   exact hbt _
  | succ i=>simp at e1
 ·rw [Zg npd.symm,Zf];rfl
 ·have nb':b≠p:=fun z=>nb (by simp [z])
  rw [Zg nb',Zg (Zt e hdt0),Zg (Zt e hdt0),Zg nb',Zg (Zt e hln)];exact e
def VQ (K:Qa)(C:Addr):Sp:=fun vs H Q _=>∃(st ln dt a:Addr)(nds:List Nd)(tabs:List (Zn×V))(n:Nd),vs=[.ref st,.ref a]/\StoreAt K C st ln dt H nds tabs/\NodeAt K H a n/\nds.length<=100000 /\
 ∀ H',StoreAt K C st ln dt H' (nds++[n]) tabs->Kq [ln] H H'->TF H H'->Q (.int nds.length) H'
theorem scKe:Zm ["self","node"] ["self","node"] (Zj c_Store_keep):=⟨rfl,rfl,rfl,by decide +kernel,rfl,by decide +kernel,by decide +kernel⟩
theorem Zmb {f:Addr}{fd:Qm}(F:Fun K "keep" "Store.keep" c_Store_keep f fd)(T:Txt K mg)(TC:Xr K C):FnOk P w K mg base ZC 1 f fd ["self","node"] (VQ K C):=by
 refine F.ok scKe (fun vs H Q E h=>?_) (fun cdv A outer s H vs Q E hr h=>?_)
 ·obtain ⟨st,ln,dt,a,nds,tabs,n,rfl,_⟩:=h;rfl
 obtain ⟨st,ln,dt,a,nds,tabs,n,rfl,⟨⟨dx,ob⟩,⟨as,nl,hl,hn⟩,tb⟩,hna,hsz,q⟩:=h
 refine ⟨_,Ze (ZU (YS QB QJ QK Ys (Zu (pv 0) rfl) (Zb (pv 1) Za))) (Zh (Zq (Zx Xt (Zr ZO rfl T.len QM (Zb (Zu (pv 0) rfl) Za)) Zi))),?_⟩
 have e1:(as.map V.ref).length < sizeLine:=by rw [length_map,hl];exact QO hsz (by decide)
 refine ⟨_,rfl,st,C,dx,_,_,rfl,ob,TC.cl,TC.nN,XT ln dt,.inl ⟨rfl,_,SqL.of nl⟩,_,rfl,ln,_,_,rfl,rfl,nl,e1,?_⟩
 have nsl:st≠ln:=Zbg ob nl (by intro z;cases z)
 have ndl:dt≠ln:=Zbg tb nl (by intro z;cases z)
 refine ⟨_,rfl,st,C,dx,_,_,rfl,(by rw [Zg nsl];exact ob),TC.cl,TC.nN,XT ln dt,ln,_,rfl,.inl (SqL.of Zf),_,_,rfl,rfl,?_⟩
 have tf:=Zee (o:=.lst (as.map V.ref++[.ref a])) nl
 have e2:((((as.map V.ref++[V.ref a]).length:Nat):Int) - 1)=(nds.length:Int):=by rw [length_append,length_map,hl];show ((nds.length+1:Nat):Int) - 1=_;omega
 have fin:Q (.int (nds.length:Int)) (upd H ln (.lst (as.map V.ref++[.ref a]))):=by
  refine q _ ⟨⟨dx,by rw [Zg nsl];exact ob⟩,⟨as++[a],by rw [map_append];exact Zf,by rw [length_append,length_append,hl];rfl,fun i b m e3 e4=>?_⟩,by rw [Zg ndl];exact tb⟩ ZaZ tf
  by_cases hi:i < as.length
  ·rw [getElem?_append_left hi] at e3
   rw [getElem?_append_left (by rw [<- hl];exact hi)] at e4
   exact (hn i b m e3 e4).tf tf
  ·rw [getElem?_append_right (by omega)] at e3
   rw [getElem?_append_right (by omega)] at e4
   have h0:i - as.length=0:=by
    cases z:i - as.length with
    | zero=>rfl
    | succ j=>rw [z] at e3;simp at e3
   rw [h0] at e3
   rw [show i - nds.length=0 by omega] at e4
   cases (show some a=some b from e3)
   cases (show some n=some m from e4)
   exact hna.tf tf
 rw [<- e2] at fin
 exact fin
def Zgq (K:Qa)(C:Addr):Sp:=fun vs H Q _=>∃(st ln dt:Addr)(nds:List Nd)(tabs:List (Zn×V))(n:Int),vs=[.ref st,.int n]/\StoreAt K C st ln dt H nds tabs/\tabs.length<=100000 /\
 ∀ H',StoreAt K C st ln dt H' nds (Yp tabs (QT n) (.bl true))->Kq [dt] H H'->TF H H'->Q (.int n) H'
theorem scAs:Zm ["self","number"] ["self","number"] (Zj c_Store_as_table):=⟨rfl,rfl,rfl,by decide +kernel,rfl,by decide +kernel,by decide +kernel⟩
theorem Zoh {f:Addr}{fd:Qm}(F:Fun K "as_table" "Store.as_table" c_Store_as_table f fd)(TC:Xr K C):FnOk P w K mg base ZC 1 f fd ["self","number"] (Zgq K C):=by
 refine F.ok scAs (fun vs H Q E h=>?_) (fun cdv A outer s H vs Q E hr h=>?_)
 ·obtain ⟨st,ln,dt,nds,tabs,n,rfl,_⟩:=h;rfl
 obtain ⟨st,ln,dt,nds,tabs,n,rfl,⟨⟨dx,ob⟩,⟨as,nl,hl,hn⟩,tb⟩,hsz,q⟩:=h
 refine ⟨_,Ze (Vb (YL hr) (Zu (pv 0) rfl) (pv 1) YV rfl) (Zh (Zq (pv 1))),?_⟩
 refine ⟨_,rfl,st,C,dx,_,_,rfl,ob,TC.cl,TC.nT,Zhs ln dt,_,rfl,dt,_,rfl,DPut.k (k:=QT n) tb (QO hsz (by decide)),_,rfl,?_⟩
 have nsd:st≠dt:=Zbg ob tb (by intro z;cases z)
 have nld:ln≠dt:=Zbg nl tb (by intro z;cases z)
 have tf:=ZlZ (o:=.dK (Yp tabs (QT n) (.bl true))) tb
 exact q _ ⟨⟨dx,by rw [Zg nsd];exact ob⟩,⟨as,by rw [Zg nld];exact nl,hl,fun i a m e1 e2=>(hn i a m e1 e2).tf tf⟩,Zf⟩ ZaZ tf
def Zfk (K:Qa)(C:Addr):Sp:=fun vs H Q _=>∃(st ln dt:Addr)(nds:List Nd)(tabs:List (Zn×V))(n:Int),vs=[.ref st,.int n]/\StoreAt K C st ln dt H nds tabs/\(ZD tabs (QT n)).isSome=true/\Q .non H
theorem scCk:Zm ["self","table"] ["self","table"] (Zj c_Store_check_table):=⟨rfl,rfl,rfl,by decide +kernel,rfl,by decide +kernel,by decide +kernel⟩
theorem Zjl {f:Addr}{fd:Qm}(F:Fun K "check_table" "Store.check_table" c_Store_check_table f fd)(TC:Xr K C):FnOk P w K mg base ZC 1 f fd ["self","table"] (Zfk K C):=by
 refine F.ok scCk (fun vs H Q E h=>?_) (fun cdv A outer s H vs Q E hr h=>?_)
 ·obtain ⟨st,ln,dt,nds,tabs,n,rfl,_⟩:=h;rfl
 obtain ⟨st,ln,dt,nds,tabs,n,rfl,⟨⟨dx,ob⟩,⟨as,nl,hl,hn⟩,tb⟩,hs,q⟩:=h
 refine ⟨_,Zh (ZZ (Xa (ZcV (YL hr) (pv 1) (Zu (pv 0) rfl))) (Zh Vl) ZM),?_⟩
 refine ⟨_,rfl,_,rfl,st,C,dx,_,_,rfl,ob,TC.cl,TC.nT,Zhs ln dt,dt,_,rfl,DGet.k (k:=QT n) tb,_,rfl,?_⟩
 rw [hs]
 exact ZP q
end
def Ya (n:Int)(k:Nat):Nat:=(n / 4 ^ k % 4).toNat
theorem Wz (n:Int)(k:Nat):(Ya n k:Int)=n / 4 ^ k % 4:=Int.toNat_of_nonneg (GF _ (by decide))
theorem Ut (n:Int)(k:Nat):Ya n k < 4:=by
 have h1:=Wz n k
 have h2:=Gy (n / 4 ^ k) (show (0:Int) < 4 by decide)
 omega
def Xk (nds:List Nd)(m:Int):Nat->Nat->Nat->Option (List Nat)
 | 0,_,_=>none
 | f+1,lev,num=>match nds[num]? with
  | none=>none
  | some (.fork qs)=>(qs[Ya m lev]?).bind fun q=>(Xk nds m f (lev+1) q).map (num::·)
  | some _=>some [num]
def iN (n:Nat):V:=.int (n:Int)
section
variable {P:Qk}{w:Qv}{K:Qa}{mg:Str->Option Qb}{base:Heap}{C:Addr}
theorem _root_.L2.StoreAt.node {st ln dt:Addr}{H:Hp}{nds:List Nd}{tabs:List (Zn×V)}(S:StoreAt K C st ln dt H nds tabs){i:Nat}{n:Nd}(h:nds[i]?=some n):∃(as:List Addr)(a:Addr),H ln=some (.lst (as.map V.ref))/\as[i]?=some a/\NodeAt K H a n:=by
 obtain ⟨_,⟨as,e,l,hn⟩,_⟩:=S
 have hi:i < as.length:=by rw [l];exact (Qf.mp h).1
 exact ⟨as,as[i],e,getElem?_eq_getElem hi,hn i _ n (getElem?_eq_getElem hi) h⟩
def Zke (K:Qa)(C:Addr):Sp:=fun vs H Q _=>∃(st ln dt:Addr)(nds:List Nd)(tabs:List (Zn×V))(t:Nat)(x:Str)(f:Nat)(ws:List Nat),vs=[.ref st,iN t,.str x]/\StoreAt K C st ln dt H nds tabs/\(ZD tabs (QT (t:Int))).isSome=true/\x.length<=1000/\0<=Zy x/\f<=1000 /\
 Xk nds (Zy x) f 0 t=some ws/\∀ r H',H r=none->Same H H'->H' r=some (.lst (ws.map iN))->Q (.ref r) H'
theorem scWa:Zm ["self","table","name","told","parts","part"] ["self","table","name"] (Zj c_Store_way):=⟨rfl,rfl,rfl,by decide +kernel,rfl,by decide +kernel,by decide +kernel⟩
theorem Zoq {f : Addr}{fd:Qm}(F:Fun K "way" "Store.way" c_Store_way f fd)(T:Txt K mg)(TC:Xr K C)(DC:DefM P w K mg base 1 C "check_table" ["self","table"] (Zfk K C))(DP:Def P w K mg base 1 "parts_in" ["node"] (UW K))
 (DM:Def P w K mg base 1 "mark" ["name"] WH) (DG:Def P w K mg base 1 "digit" ["number","level"] Ws):FnOk P w K mg base ZC 2 f fd ["self","table","name"] (Zke K C):=by
 refine F.ok scWa (fun vs H Q E h=>?_) (fun cdv A outer s H vs Q E hr h=>?_)
 ·obtain ⟨st,ln,dt,nds,tabs,t,x,f,ws,rfl,_⟩:=h;rfl
 obtain ⟨st,ln,dt,nds,tabs,t,x,fu,ws,rfl,S,htab,hx,hm,hfu,hway,q⟩:=h
 refine' ⟨?t,?h,?r⟩
 case h =>
  conv=>arg 2;whnf
  with_reducible refine' Ze ?a1 (Ze ?a2 (Ze ?a3 (Ze (Zeb ?w0 ?w1 (Ze ?b1 (Ze ?b2 (Zh ?b3)))) (Zh ?a5))))
  case a1=>exact ZU (ZH DC TC.cl hr (pv 0) (Zb (pv 1) Za))
  case a2=>exact Zv (i:=3) scWa.nd rfl (Qz rfl) (ZX (Zb (pv 1) Za))
  case a3=>exact Zv (i:=4) scWa.nd rfl (Qz rfl) (ZI DP hr (Zb (Zz ZB (Zu (pv 0) rfl) (pv 1) (fun _ _=>rfl)) Za))
  case w0=>exact Gi
  case w1=>exact Ud (pv 4) (fun _=>rfl)
  case b1=>exact Zv (i:=5) scWa.nd rfl (Qz rfl) (Zz YF (pv 4) (ZI DG hr (Zb (ZI DM hr (Zb (pv 2) Za)) (Zb (Zx Xt (Zr ZO rfl T.len QM (Zb (pv 3) Za)) Zi) Za))) (fun _ _=>rfl))
  case b2=>exact ZU (YS QB QJ QK Ys (pv 3) (Zb (pv 5) Za))
  case b3=>exact Zv (i:=4) scWa.nd rfl (Qz rfl) (ZI DP hr (Zb (Zz ZB (Zu (pv 0) rfl) (pv 5) (fun _ _=>rfl)) Za))
  case a5=>exact Zq (pv 3)
 obtain ⟨dx,ob⟩:=S.ob
 refine ⟨_,rfl,st,dx,_,rfl,ob,ZW ln dt (by decide +kernel) (by decide +kernel),_,rfl,st,ln,dt,nds,tabs,t,rfl,S,htab,_,rfl,(by show 1<=Qi;decide),fun l hl=>?_⟩
 obtain ⟨n,hn⟩:∃ n,nds[t]?=some n:=by
  cases fu with
  | zero=>cases hway
  | succ fu =>
   cases e:nds[t]? with
   | none=>unfold Xk at hway;rw [e] at hway;cases hway
   | some n=>exact ⟨n,rfl⟩
 have s1:=Zk hl (.lst [iN t])
 have S1:=S.keep s1
 obtain ⟨as,a,nl,ha,hna⟩:=S1.node hn
 obtain ⟨dx1,ob1⟩:=S1.ob
 refine ⟨_,rfl,st,C,dx1,_,_,rfl,ob1,TC.cl,TC.nN,XT ln dt,_,rfl,ln,_,_,_,rfl,rfl,SqL.of nl,ZE (by rw [getElem?_map,ha];rfl),a,n,rfl,hna,fun pt H2 s2 hpt=>?_⟩
 refine ⟨fun fl σ H'=>∃ (pre wr:List Nat) (num:Nat) (n:Nd) (pt:Addr) (y:Option V),σ=[some (.ref st),some (iN t),some (.str x),some (.ref l),some (.ref pt),y]/\Same H H'/\H' l=some (.lst ((pre++[num]).map iN))/\nds[num]?=some n/\SqT K H' pt (n.parts.map iN)/\Xk nds (Zy x) fl pre.length num=some wr/\ws=pre++wr/\fl+pre.length<=1000,
  ⟨fu,[],ws,t,n,pt,_,rfl,s1.trans s2,s2 _ _ Zf,hn,hpt,hway,rfl,by simpa using hfu⟩,?_⟩
 rintro fl σ H3 ⟨pre,wr,num,n,pt,y,rfl,s3,hl3,hn3,hpt3,hw3,rfl,hfl⟩
 refine ⟨_,rfl,_,.inr (.inl ⟨_,hpt3,rfl⟩),?_⟩
 have stop:n.parts=[]->Xk nds (Zy x) fl pre.length num=some [num]:=fun z=>by
  cases fl with
  | zero=>cases hw3
  | succ fl =>
   unfold Xk at hw3 ⊢
   rw [hn3] at hw3 ⊢
   cases n with
   | bare=>rfl
   | leaf m ps=>rfl
   | fork qs =>
    have z':qs=[]:=z
    subst z'
    simp at hw3
 by_cases hz:n.parts=[]
 ·rw [hz]
  refine ZP ⟨_,rfl,?_⟩
  have e:=stop hz
  rw [hw3] at e
  cases e
  exact q l H3 hl s3 hl3
 ·have hk : (!(n.parts.map iN).isEmpty)=true:=by
   cases e:n.parts with
   | nil=>exact absurd e hz
   | cons _ _=>rfl
  rw [hk]
  cases n with
  | bare=>exact absurd rfl hz
  | leaf m ps=>exact absurd rfl hz
  | fork qs =>
   cases fl with
   | zero=>cases hw3
   | succ fl =>
    unfold Xk at hw3
    rw [hn3] at hw3
    cases eq1:qs[Ya (Zy x) pre.length]? with
    | none=>simp [eq1] at hw3
    | some q1 =>
     have hw4:(Xk nds (Zy x) fl (pre.length+1) q1).map (num::·)=some wr:=by simpa [eq1] using hw3
     cases eq2:Xk nds (Zy x) fl (pre.length+1) q1 with
     | none=>rw [eq2] at hw4;cases hw4
     | some wr' =>
      rw [eq2] at hw4
      have ewr:num::wr'=wr:=by simpa using hw4
      obtain ⟨n',hn'⟩:∃ n',nds[q1]?=some n':=by
       cases fl with
       | zero=>cases eq2
       | succ fl =>
        cases e:nds[q1]? with
        | none=>unfold Xk at eq2;rw [e] at eq2;cases eq2
        | some n=>exact ⟨n,rfl⟩
      have e2:((((pre++[num]).map iN).length:Nat):Int) - 1=(pre.length:Int):=by rw [length_map,length_append];show ((pre.length+1:Nat):Int) - 1=_;omega
      have hat:YH (qs.map iN) (Zy x / 4 ^ pre.length % 4)=some (iN q1):=by rw [<- Wz];exact ZE (by rw [getElem?_map,eq1];rfl)
      refine Yk ⟨_,fun σ' H' h=>⟨fl,So _,h⟩,_,rfl,_,rfl,x,rfl,hx,fun H4 s4=>?_⟩
      refine ⟨_,rfl,l,_,rfl,.inl (SqL.of (s4 _ _ hl3)),_,_,rfl,rfl,Zy x,pre.length,congrArg (fun z=>[V.int (Zy x),V.int z]) e2,hm,by omega,pt,_,_,_,rfl,rfl,hpt3.tf s4.tf,hat,?_⟩
      refine ⟨_,rfl,.inl ⟨rfl,_,SqL.of (s4 _ _ hl3)⟩,_,rfl,l,_,_,rfl,rfl,s4 _ _ hl3,(by rw [length_map,length_append];show pre.length+1 < Qi;exact QO (show pre.length+1<=1001 by omega) (by decide)),?_⟩
      have s5:Same H (upd H4 l (.lst ((pre++[num]).map iN++[iN q1]))):=fun b o e=>by rw [Zg (Zt e hl)];exact s4 _ _ (s3 _ _ e)
      have S5:=S.keep s5
      obtain ⟨as5,a5,nl5,ha5,hna5⟩:=S5.node hn'
      obtain ⟨dx5,ob5⟩:=S5.ob
      refine ⟨_,rfl,st,C,dx5,_,_,rfl,ob5,TC.cl,TC.nN,XT ln dt,_,rfl,ln,_,_,_,rfl,rfl,SqL.of nl5,ZE (by rw [getElem?_map,ha5];rfl),a5,n',rfl,hna5,fun pt6 H6 s6 hpt6=>?_⟩
      refine ⟨pre++[num],wr',q1,n',pt6,_,rfl,s5.trans s6,?_,hn',hpt6,?_,?_,?_⟩
      ·rw [map_append];exact s6 _ _ Zf
      ·rw [length_append];exact eq2
      ·rw [<- ewr,append_assoc];rfl
      ·rw [length_append];show fl+(pre.length+1)<=1000;omega
def lk (ps:List (Str×V))(x:Str):Option V:=ZD (ps.map fun p=>((Qu p.1:Zn),p.2)) (Qu x)
def WZ (K:Qa)(C:Addr):Sp:=fun vs H Q _=>∃(st ln dt:Addr)(nds:List Nd)(tabs:List (Zn×V))(t:Nat)(x:Str)(f:Nat)(ws:List Nat)(e:Nat)(n:Nd),vs=[.ref st,iN t,.str x]/\StoreAt K C st ln dt H nds tabs/\(ZD tabs (QT (t:Int))).isSome=true/\x.length<=1000/\0<=Zy x/\f<=1000 /\
 Xk nds (Zy x) f 0 t=some (ws++[e])/\nds[e]?=some n/\n.pairs.length<=1000/\(n.pairs.map (·.1)).Nodup/\∀ H',Same H H'->Q ((lk n.pairs x).getD .non) H'
theorem scLo:Zm ["self","table","name","end"] ["self","table","name"] (Zj c_Store_looked):=⟨rfl,rfl,rfl,by decide +kernel,rfl,by decide +kernel,by decide +kernel⟩
theorem ZcC {f:Addr}{fd:Qm}(F:Fun K "looked" "Store.looked" c_Store_looked f fd)(T:Txt K mg)(TC:Xr K C)(DW:DefM P w K mg base 2 C "way" ["self","table","name"] (Zke K C))(DR:Def P w K mg base 1 "pairs_in" ["node"] (WB K)):FnOk P w K mg base ZC 3 f fd ["self","table","name"] (WZ K C):=by
 refine F.ok scLo (fun vs H Q E h=>?_) (fun cdv A outer s H vs Q E hr h=>?_)
 ·obtain ⟨st,ln,dt,nds,tabs,t,x,f,ws,e,n,rfl,_⟩:=h;rfl
 obtain ⟨st,ln,dt,nds,tabs,t,x,fu,ws,e,n,rfl,S,htab,hx,hm,hfu,hway,hn,hsz,hnd,q⟩:=h
 refine' ⟨?t,?h,?r⟩
 case h =>
  conv=>arg 2;whnf
  with_reducible refine' Ze ?a1 (Zh ?a2)
  case a1=>exact Zv (i:=3) scLo.nd rfl (Qz rfl) (Zz ZB (ZH DW TC.cl hr (pv 0) (Zb (pv 1) (Zb (pv 2) Za))) (Zdk Zba Zi) (fun _ _=>rfl))
  case a2=>exact Zq (ZjR (YL hr) (YN (UA rfl) rfl T.dict (by decide +kernel) (Zb (ZI DR (hr.mono (by decide)) (Zb (Zz ZB (Zu (pv 0) rfl) (pv 3) (fun _ _=>rfl)) Za)) Za)) (pv 2) ⟨rfl,rfl,rfl,rfl⟩)
 obtain ⟨dx,ob⟩:=S.ob
 refine ⟨_,rfl,st,dx,_,rfl,ob,ZW ln dt (by decide +kernel) (by decide +kernel),_,rfl,_,rfl,st,ln,dt,nds,tabs,t,x,fu,_,rfl,S,htab,hx,hm,hfu,hway,fun r H1 hr1 s1 el=>?_⟩
 refine ⟨_,rfl,r,_,_,iN e,rfl,rfl,SqL.of el,(by rw [map_append];exact ZdJ _ _),?_⟩
 have S1:=S.keep s1
 obtain ⟨as,a,nl,ha,hna⟩:=S1.node hn
 obtain ⟨dx1,ob1⟩:=S1.ob
 refine ⟨_,rfl,st,C,dx1,_,_,rfl,ob1,TC.cl,TC.nN,XT ln dt,_,rfl,ln,_,_,_,rfl,rfl,SqL.of nl,ZE (by rw [getElem?_map,ha];rfl),a,n,rfl,hna,fun pt H2 s2 hpt=>?_⟩
 obtain ⟨o,ts,ept,hod,hlen,hp⟩:=hpt
 refine ⟨pt,ts,n.pairs,rfl,⟨o,ept,hod⟩,hlen,hsz,hp,hnd,fun d hd=>⟨d,rfl,.inl ⟨_,.inl Zf⟩,_,rfl,_,DGet.k (k:=Qu x) Zf,?_⟩⟩
 exact q _ ((s1.trans s2).trans (Zk hd _))
end
def Xh (num lev:Nat):Nd->List Nat
 | .fork qs=>qs
 | .leaf m _=>[0,1,2,3].map fun g=>if g=Ya m lev then num else 0
 | .bare=>[]
def ZdM:Nd->Prop
 | .leaf m ps=>∃ p1 pr,ps=p1::pr/\Zy p1.1=m/\p1.1.length<=1000/\0<=m
 | _=>True
section
variable {P:Qk}{w:Qv}{K:Qa}{mg:Str->Option Qb}{base:Heap}{C:Addr}
def Zjt (K:Qa)(C:Addr):Sp:=fun vs H Q _=>∃(st ln dt:Addr)(nds:List Nd)(tabs:List (Zn×V))(num lev:Nat)(n:Nd),vs=[.ref st,iN num,iN lev]/\StoreAt K C st ln dt H nds tabs/\nds[num]?=some n/\n≠.bare/\ZdM n/\lev<=1000 /\
 ∀ r H',H r=none->Same H H'->H' r=some (.lst ((Xh num lev n).map iN))->Q (.ref r) H'
abbrev nFp:List Str:=["self","number","level","node","first_name","at"]
theorem scFp:Zm nFp ["self","number","level"] (Zj c_Store_fork_parts):=⟨rfl,rfl,rfl,by decide +kernel,rfl,by decide +kernel,by decide +kernel⟩
theorem Zpx {f:Addr}{fd:Qm}(F:Fun K "fork_parts" "Store.fork_parts" c_Store_fork_parts f fd)(T:Txt K mg)(TC:Xr K C)(DP:Def P w K mg base 1 "parts_in" ["node"] (UW K))(DR:Def P w K mg base 1 "pairs_in" ["node"] (WB K))
 (DM:Def P w K mg base 1 "mark" ["name"] WH) (DG:Def P w K mg base 1 "digit" ["number","level"] Ws):FnOk P w K mg base ZC 2 f fd ["self","number","level"] (Zjt K C):=by
 refine F.ok scFp (fun vs H Q E h=>?_) (fun cdv A outer s H vs Q E hr h=>?_)
 ·obtain ⟨st,ln,dt,nds,tabs,num,lev,n,rfl,_⟩:=h;rfl
 obtain ⟨st,ln,dt,nds,tabs,num,lev,n,rfl,S,hn,hnb,hok,hlev,q⟩:=h
 obtain ⟨tz,hz⟩:=T.zero
 obtain ⟨af,hf,hft⟩:=T.figs
 refine' ⟨?t,?h,?r⟩
 case h =>
  conv=>arg 2;whnf
  with_reducible refine' Ze ?a1 (Ze ?a2 (Ze ?a3 (Ze ?a4 (Zh ?a5))))
  case a1=>exact Zv (i:=3) scFp.nd rfl (Qz rfl) (Zz ZB (Zu (pv 0) rfl) (pv 1) (fun _ _=>rfl))
  case a2=>exact ZZ (Ud (ZI DP hr (Zb (pv 3) Za)) (fun _=>rfl)) (Zh (Zq (YN Uk rfl T.list (by decide +kernel) (Zb (ZI DP hr (Zb (pv 3) Za)) Za)))) ZM
  case a3=>exact Zv (i:=4) scFp.nd rfl (Qz rfl) (Zz YF (Zz YF (ZI DR hr (Zb (pv 3) Za)) Zi (fun _ _=>rfl)) Zi (fun _ _=>rfl))
  case a4=>exact Zv (i:=5) scFp.nd rfl (SX rfl) (ZI DG hr (Zb (ZI DM hr (Zb (pv 4) Za)) (Zb (pv 2) Za)))
  case a5=>exact Zq (Zah (CompOk.of nFp c_Store_fork_parts rfl rfl (by decide +kernel)) rfl (ZhM (ZR rfl hf (v:=.ref af) rfl)) (fun _ _ _ _ _=>Yo (ZL Yx (pv 6) (pv 5) (ZJ _)) (pv 1) (ZR rfl hz (v:=.int 0) ⟨_,rfl⟩)))
 obtain ⟨as,a,nl,ha,hna⟩:=S.node hn
 obtain ⟨dx,ob⟩:=S.ob
 refine ⟨_,rfl,st,C,dx,_,_,rfl,ob,TC.cl,TC.nN,XT ln dt,_,rfl,ln,_,_,_,rfl,rfl,SqL.of nl,ZE (by rw [getElem?_map,ha];rfl),?_⟩
 refine ⟨_,rfl,a,n,rfl,hna,fun pt H2 s2 hpt=>⟨_,.inr (.inl ⟨_,hpt,rfl⟩),?_⟩⟩
 cases n with
 | bare=>exact absurd rfl hnb
 | fork qs =>
  have h4:qs.length=4:=by obtain ⟨_,_,_,z⟩:=hna;exact z
  have hk:(!(((Nd.fork qs).parts).map (fun q:Nat=>V.int (q:Int))).isEmpty)=true:=by
   cases qs with
   | nil=>cases h4
   | cons _ _=>rfl
  rw [hk]
  refine Yk ⟨_,rfl,a,_,rfl,hna.tf s2.tf,fun pt3 H3 s3 hpt3=>⟨pt3,_,rfl,.inr hpt3,fun l hl=>?_⟩⟩
  have hl0:H l=none:=by
   cases e:H l with
   | none=>rfl
   | some o=>rw [s3 _ _ (s2 _ _ e)] at hl;cases hl
  exact q l _ hl0 ((s2.trans s3).trans (Zk hl _)) Zf
 | leaf m ps =>
  obtain ⟨p1,pr,rfl,hm1,hx1,hm0⟩:=hok
  refine ZP ⟨_,rfl,a,_,rfl,hna.tf s2.tf,fun pt3 H3 s3 hpt3=>?_⟩
  obtain ⟨o,ts,ept,hod,hlen,hp⟩:=hpt3
  cases ts with
  | nil=>simp [Nd.pairs] at hlen
  | cons t1 tr =>
   have et1:=hp 0 t1 p1 rfl rfl
   refine ⟨pt3,_,_,_,rfl,rfl,.inl (.inr ⟨o,ept⟩),(show YH ((t1::tr).map V.ref) ((0:Nat):Int)=some (V.ref t1) from ZE rfl),t1,_,_,_,rfl,rfl,SqT.of et1,rfl,?_⟩
   refine ⟨_,rfl,p1.1,rfl,hx1,fun H4 s4=>⟨_,rfl,Zy p1.1,lev,rfl,by rw [hm1];exact hm0,hlev,?_⟩⟩
   refine ⟨af,rfl,⟨_,hft _⟩,fun D hD=>?_⟩
   have s24:=(s2.trans s3).trans s4
   have hD0:H D=none:=by
    cases e:H D with
    | none=>rfl
    | some o=>rw [s24 _ _ e] at hD;cases hD
   refine ZiN (K:=K) (a:=af) (xs:=[.int 0,.int 1,.int 2,.int 3]) (by show 4<=Qi;decide) (fun i ys H'=>ys=(([0,1,2,3]:List Nat).take i).map (fun g=>iN (if g=Ya m lev then num else 0))/\i<=4/\H' D=some (.lst ys)/\Same H H') ?_ ?_ ?_ ?_
   ·exact ⟨rfl,by decide,Zf,s24.trans (Zk hD _)⟩
   ·rintro i ys H5 ⟨rfl,hi,_,_⟩
    exact ⟨by rw [length_map,length_take];show min i 4=i;omega,hft _⟩
   ·rintro i x ys H5 hi ⟨rfl,hi4,hD5,s5⟩
    have hi':i < 4:=(Qf.mp hi).1
    have ex:x=iN i:=by
     rcases i with _ | _ | _ | _ | i
     ·cases hi;rfl
     ·cases hi;rfl
     ·cases hi;rfl
     ·cases hi;rfl
     ·omega
    subst ex
    have fin:∀ y,y=iN (if i=Ya m lev then num else 0)->H5 D=some (.lst ((([0,1,2,3]:List Nat).take i).map (fun g=>iN (if g=Ya m lev then num else 0))))/\(((([0,1,2,3]:List Nat).take i).map (fun g=>iN (if g=Ya m lev then num else 0))++[y])=(([0,1,2,3]:List Nat).take (i+1)).map (fun g=>iN (if g=Ya m lev then num else 0))/\i+1<=4/\upd H5 D (.lst ((([0,1,2,3]:List Nat).take i).map (fun g=>iN (if g=Ya m lev then num else 0))++[y])) D=some (.lst ((([0,1,2,3]:List Nat).take i).map (fun g=>iN (if g=Ya m lev then num else 0))++[y]))/\Same H (upd H5 D (.lst ((([0,1,2,3]:List Nat).take i).map (fun g=>iN (if g=Ya m lev then num else 0))++[y])))):=by
     intro y ey
     refine ⟨hD5,?_,by omega,Zf,fun b o e=>by rw [Zg (Zt e hD0)];exact s5 _ _ e⟩
     subst ey
     rcases i with _ | _ | _ | _ | i
     ·rfl
     ·rfl
     ·rfl
     ·rfl
     ·omega
    have ed:decide (iN i=V.int (Zy p1.1 / 4 ^ lev % 4))=decide (i=Ya m lev):=by
     rw [hm1,<- Wz]
     by_cases z:i=Ya m lev
     ·rw [decide_eq_true z,z];exact decide_eq_true rfl
     ·rw [decide_eq_false z]
      exact decide_eq_false fun y=>z (by have:=V.int.inj y;omega)
    refine ⟨_,rfl,_,rfl,rfl,_,rfl,?_⟩
    rw [ed]
    by_cases z:i=Ya m lev
    ·rw [decide_eq_true z]
     exact Yk ⟨_,rfl,fin _ (by rw [if_pos z])⟩
    ·rw [decide_eq_false z]
     exact ZP (fin _ (by rw [if_neg z];rfl))
   ·rintro ys H5 ⟨rfl,_,hD5,s5⟩
    refine q D H5 hD0 s5 ?_
    rw [hD5]
    rfl
end
def gK (p:Str×V):Zn×V:=(Qu p.1,p.2)
theorem ZmB (ps:List (Str×V))(x:Str):lk ps x=ZD (ps.map gK) (Qu x):=rfl
theorem Zii (x:Str):lk [] x=none:=rfl
theorem UU (p:Str×V)(ps:List (Str×V))(x:Str):lk (p::ps) x=if p.1=x then some p.2 else lk ps x:=by
 by_cases h:p.1=x
 ·rw [if_pos h];exact YB (show (gK p).1=Qu x by rw [<- h];rfl)
 ·rw [if_neg h];exact YD (show ¬ (gK p).1=Qu x from fun z=>h (JZ z))
theorem VO {ps:List (Str×V)}(hnd:(ps.map (·.1)).Nodup){x:Str}{v:V}:lk ps x=some v↔(x,v)∈ps:=by
 induction ps with
 | nil=>simp [Zii]
 | cons p ps ih =>
  rw [map_cons,nodup_cons] at hnd
  rw [UU]
  by_cases h:p.1=x
  ·rw [if_pos h]
   constructor
   ·intro e
    cases e
    rw [<- h];exact mem_cons_self
   ·intro e
    rcases mem_cons.mp e with e | e
    ·rw [<- e]
    ·exact absurd (h ▸ Oc (f:=(·.1)) e) hnd.1
  ·rw [if_neg h,ih hnd.2,mem_cons]
   exact ⟨.inr,fun e=>e.resolve_left fun z=>h (by rw [<- z])⟩
theorem Zfm {ps:List (Str×V)}{x:Str}(h:∀ p∈ps,p.1≠x):lk ps x=none:=by
 induction ps with
 | nil=>rfl
 | cons p ps ih=>rw [UU,if_neg (h p mem_cons_self)];exact ih fun q hq=>h q (mem_cons_of_mem _ hq)
theorem Zfw {ps qs:List (Str×V)}(h:ps.Perm qs)(hnd:(qs.map (·.1)).Nodup)(x:Str):lk ps x=lk qs x:=by
 have hnd':(ps.map (·.1)).Nodup:=(h.map (·.1)).nodup_iff.mpr hnd
 cases e:lk qs x with
 | some v=>exact (VO hnd').mpr (h.mem_iff.mpr ((VO hnd).mp e))
 | none =>
  cases e2:lk ps x with
  | none=>rfl
  | some v=>rw [(VO hnd).mpr (h.mem_iff.mp ((VO hnd').mp e2))] at e;cases e
def Wu (ps:List (Str×V))(x:Str)(v:V):List (Str×V) :=
 if (ps.any fun p=>decide (p.1=x))=true then ps.map (fun p=>if p.1=x then (p.1,v) else p) else ps++[(x,v)]
theorem Zed (ps:List (Str×V))(x:Str)(v:V):Yp (ps.map gK) (Qu x) v=(Wu ps x v).map gK:=by
 have e:∀ p:Str×V,decide ((gK p).1=Qu x)=decide (p.1=x):=fun p=>by
  by_cases h:p.1=x
  ·rw [decide_eq_true h];exact decide_eq_true (by rw [<- h];rfl)
  ·rw [decide_eq_false h];exact decide_eq_false fun z=>h (JZ z)
 have e1:((ps.map gK).any fun kv=>decide (kv.1=Qu x))=ps.any fun p=>decide (p.1=x):=by
  rw [List.any_map];congr 1;funext p;exact e p
 unfold Yp Wu
 rw [e1]
 by_cases h:(ps.any fun p=>decide (p.1=x))=true
 ·rw [if_pos h,if_pos h,map_map,map_map]
  congr 1
  funext p
  show (if (gK p).1=Qu x then ((gK p).1,v) else gK p)=gK (if p.1=x then (p.1,v) else p)
  by_cases z:p.1=x
  ·rw [if_pos z,if_pos (show (gK p).1=Qu x by rw [<- z];rfl)];rfl
  ·rw [if_neg z,if_neg (show ¬ (gK p).1=Qu x from fun y=>z (JZ y))]
 ·rw [if_neg h,if_neg h,map_append];rfl
theorem ZhH (ps:List (Str×V))(x:Str)(v:V):(Wu ps x v).map (·.1)=if x∈ps.map (·.1) then ps.map (·.1) else ps.map (·.1)++[x]:=by
 have e:(ps.any fun p=>decide (p.1=x))=true↔x∈ps.map (·.1):=by
  rw [Nx,mem_map]
  exact ⟨fun ⟨p,h,z⟩=>⟨p,h,of_decide_eq_true z⟩,fun ⟨p,h,z⟩=>⟨p,h,decide_eq_true z⟩⟩
 unfold Wu
 by_cases h:(ps.any fun p=>decide (p.1=x))=true
 ·rw [if_pos h,if_pos (e.mp h),map_map]
  apply Tg
  intro p _
  show (if p.1=x then (p.1,v) else p).1=p.1
  split<;>rfl
 ·rw [if_neg h,if_neg fun z=>h (e.mpr z),map_append];rfl
theorem ZlL (ps:List (Str×V))(x y:Str)(v:V):lk (Wu ps x v) y=if y=x then some v else lk ps y:=by
 rw [ZmB,<- Zed,Uv]
 by_cases h:y=x
 ·rw [if_pos h,if_pos (by rw [h])]
 ·rw [if_neg h,if_neg fun z=>h (JZ z)];rfl
structure Yq (NS:List Str):Prop where
 few:NS.length < 64
 len:∀ x∈NS,x.length<=1000
 lo:∀ x∈NS,0<=Zy x
 hi:∀ x∈NS,Zy x < 1024
structure LeafG (NS:List Str)(m:Int)(ps:List (Str×V)):Prop where
 ne:ps≠[]
 nd:(ps.map (·.1)).Nodup
 sub:∀ p∈ps,p.1∈NS
 mrk:∀ p∈ps,Zy p.1=m
def Xs (x:Str):Nat:=(Zy x).toNat
def TriE (NS:List Str)(nds:List Nd)(F:Str->Option V)(lev r num:Nat):Prop :=
 (num=0/\nds[num]?=some .bare/\∀ x∈NS,Xs x % 4 ^ lev=r->F x=none) \/
 ∃ m ps,nds[num]?=some (.leaf m ps)/\LeafG NS m ps/\m.toNat % 4 ^ lev=r/\∀ x∈NS,Xs x % 4 ^ lev=r->F x=lk ps x
def Tri (NS:List Str)(nds:List Nd)(F:Str->Option V):Nat->Nat->Nat->Nat->Prop
 | 0,lev,r,num=>TriE NS nds F lev r num
 | d+1,lev,r,num=>TriE NS nds F lev r num\/∃ qs,nds[num]?=some (.fork qs)/\qs.length=4/\∀ i q,qs[i]?=some q->Tri NS nds F d (lev+1) (r+i * 4 ^ lev) q
def NEx (nds nds':List Nd):Prop:=∀(i:Nat)(n:Nd),nds[i]?=some n->nds'[i]?=some n
theorem NEx.refl (nds:List Nd):NEx nds nds:=fun _ _ h=>h
theorem NEx.trans {a b c:List Nd}(h:NEx a b)(h':NEx b c):NEx a c:=fun i n e=>h' i n (h i n e)
theorem NEx.app (nds:List Nd)(n:Nd):NEx nds (nds++[n]):=fun i m e=>by rw [getElem?_append_left (Qf.mp e).1];exact e
section
variable {NS:List Str}{nds nds':List Nd}{F F':Str->Option V}
theorem TriE.mono {lev r num:Nat}(h:TriE NS nds F lev r num)(e:NEx nds nds'):TriE NS nds' F lev r num:=by
 rcases h with ⟨h1,h2,h3⟩ | ⟨m,ps,h1,h2⟩
 ·exact .inl ⟨h1,e _ _ h2,h3⟩
 ·exact .inr ⟨m,ps,e _ _ h1,h2⟩
theorem Tri.mono:∀(d:Nat){lev r num:Nat},Tri NS nds F d lev r num->NEx nds nds'->Tri NS nds' F d lev r num
 | 0,_,_,_,h,e=>TriE.mono h e
 | d+1,_,_,_,.inl h,e=>.inl (TriE.mono h e)
 | d+1,_,_,_,.inr ⟨qs,h1,h2,h3⟩,e=>.inr ⟨qs,e _ _ h1,h2,fun i q hq=>Tri.mono d (h3 i q hq) e⟩
theorem TriE.congr {lev r num:Nat}(h:TriE NS nds F lev r num)(e:∀ x∈NS,Xs x % 4 ^ lev=r->F' x=F x):TriE NS nds F' lev r num:=by
 rcases h with ⟨h1,h2,h3⟩ | ⟨m,ps,h1,h2,h3,h4⟩
 ·exact .inl ⟨h1,h2,fun x hx hr=>by rw [e x hx hr];exact h3 x hx hr⟩
 ·exact .inr ⟨m,ps,h1,h2,h3,fun x hx hr=>by rw [e x hx hr];exact h4 x hx hr⟩
theorem WW (n lev:Nat):n % 4 ^ (lev+1)=n % 4 ^ lev+(n / 4 ^ lev % 4) * 4 ^ lev:=by
 rw [Nat.pow_succ,Nat.mod_mul,Nat.mul_comm (4 ^ lev)]
theorem Wy {n lev r i:Nat}(hr:r < 4 ^ lev)(h:n % 4 ^ (lev+1)=r+i * 4 ^ lev):n % 4 ^ lev=r/\n / 4 ^ lev % 4=i:=by
 rw [WW] at h
 have hp:0 < 4 ^ lev:=Nat.pow_pos (by decide)
 have h1:=Nat.mod_lt n hp
 have e1:n % 4 ^ lev=r:=by
  have z:=congrArg (· % 4 ^ lev) h
  simp only [Nat.add_mul_mod_self_right] at z
  rwa [Nat.mod_mod,Ny hr] at z
 refine ⟨e1,?_⟩
 rw [e1] at h
 exact Nat.eq_of_mul_eq_mul_right hp (Nat.add_left_cancel h)
theorem UQ {lev r i:Nat}(hr:r < 4 ^ lev)(hi:i < 4):r+i * 4 ^ lev < 4 ^ (lev+1):=by
 rw [Nat.pow_succ]
 have:i * 4 ^ lev<=3 * 4 ^ lev:=JI _ (by omega)
 omega
theorem Tri.congr:∀(d:Nat){lev r num:Nat},r < 4 ^ lev->Tri NS nds F d lev r num->(∀ x∈NS,Xs x % 4 ^ lev=r->F' x=F x)->Tri NS nds F' d lev r num
 | 0,_,_,_,_,h,e=>TriE.congr h e
 | d+1,_,_,_,_,.inl h,e=>.inl (TriE.congr h e)
 | d+1,_,_,_,hr,.inr ⟨qs,h1,h2,h3⟩,e=>.inr ⟨qs,h1,h2,fun i q hq=>Tri.congr d (UQ hr (by rw [<- h2];exact (Qf.mp hq).1)) (h3 i q hq) fun x hx hz=>e x hx (Wy hr hz).1⟩
theorem XH {n:Int}(h:0<=n)(lev:Nat):Ya n lev=n.toNat / 4 ^ lev % 4:=by
 obtain ⟨k,rfl⟩:=Int.eq_ofNat_of_zero_le h
 unfold Ya
 have:((k:Int) / 4 ^ lev % 4)=((k / 4 ^ lev % 4:Nat):Int):=by norm_cast
 rw [this]
 rfl
theorem Zli (N:Yq NS):∀(d:Nat){lev r num:Nat}{x:Str},r < 4 ^ lev->Tri NS nds F d lev r num->x∈NS->Xs x % 4 ^ lev=r ->
 ∃ ws e n,Xk nds (Zy x) (d+1) lev num=some (ws++[e])/\nds[e]?=some n/\((e=0/\n=.bare/\F x=none)\/∃ m ps,n=.leaf m ps/\LeafG NS m ps/\F x=lk ps x):=by
 have end_:∀ {lev r num:Nat} {x:Str} (d:Nat),TriE NS nds F lev r num->x∈NS->Xs x % 4 ^ lev=r->∃ ws e n,Xk nds (Zy x) (d+1) lev num=some (ws++[e])/\nds[e]?=some n/\((e=0/\n=.bare/\F x=none)\/∃ m ps,n=.leaf m ps/\LeafG NS m ps/\F x=lk ps x):=by
  intro lev r num x d h hx hr
  rcases h with ⟨h1,h2,h3⟩ | ⟨m,ps,h1,h2,h3,h4⟩
  ·exact ⟨[],num,.bare,by unfold Xk;rw [h2];rfl,h2,.inl ⟨h1,rfl,h3 x hx hr⟩⟩
  ·exact ⟨[],num,.leaf m ps,by unfold Xk;rw [h1];rfl,h1,.inr ⟨m,ps,rfl,h2,h4 x hx hr⟩⟩
 intro d
 induction d with
 | zero=>exact fun _ h hx hr=>end_ 0 h hx hr
 | succ d ih =>
  intro lev r num x hlt h hx hr
  rcases h with h | ⟨qs,h1,h2,h3⟩
  ·exact end_ _ h hx hr
  ·have hi:Ya (Zy x) lev < qs.length:=by rw [h2];exact Ut _ _
   have hq:=getElem?_eq_getElem hi
   obtain ⟨ws,e,n,e1,e2,e3⟩:=ih (UQ hlt (Ut _ _)) (h3 _ _ hq) hx (by rw [WW,hr,XH (N.lo x hx)];rfl)
   refine ⟨num::ws,e,n,?_,e2,e3⟩
   unfold Xk
   rw [h1]
   show ((qs[Ya (Zy x) lev]?).bind fun q=>(Xk nds (Zy x) (d+1) (lev+1) q).map (num::·))=_
   rw [hq]
   show (Xk nds (Zy x) (d+1) (lev+1) _).map (num::·)=_
   rw [e1]
   rfl
end
theorem ZlB:∀{l N:List Str},l.Nodup->(∀ x∈l,x∈N)->l.length<=N.length:=by
 intro l
 induction l with
 | nil=>intro N _ _;exact QC _
 | cons a l ih =>
  intro N hnd hs
  rw [nodup_cons] at hnd
  have ha:a∈N:=hs a mem_cons_self
  have:=ih (N:=N.erase a) hnd.2 fun x hx=>(List.mem_erase_of_ne (show x≠a from fun z=>hnd.1 (by rw [<- z];exact hx))).mpr (hs x (mem_cons_of_mem _ hx))
  rw [List.length_erase_of_mem ha] at this
  have h1:0 < N.length:=List.length_pos_of_mem ha
  rw [length_cons];omega
section
variable {NS:List Str}{nds nds':List Nd}{F F':Str->Option V}
theorem LeafG.few {m:Int}{ps:List (Str×V)}(G:LeafG NS m ps):ps.length<=NS.length:=by
 have:=ZlB G.nd (N:=NS) fun x hx=>by obtain ⟨p,hp,rfl⟩:=mem_map.mp hx;exact G.sub p hp
 rwa [length_map] at this
theorem LeafG.perm {m:Int}{ps qs:List (Str×V)}(G:LeafG NS m ps)(h:qs.Perm ps):LeafG NS m qs :=
 ⟨fun z=>G.ne (by rw [z] at h;exact (Nw h).symm),(h.map (·.1)).nodup_iff.mpr G.nd,fun p hp=>G.sub p (h.mem_iff.mp hp),fun p hp=>G.mrk p (h.mem_iff.mp hp)⟩
theorem LeafG.ok {m:Int}{ps:List (Str×V)}(N:Yq NS)(G:LeafG NS m ps):ZdM (.leaf m ps):=by
 cases ps with
 | nil=>exact absurd rfl G.ne
 | cons p pr =>
  have h1:=G.mrk p mem_cons_self
  have h2:=G.sub p mem_cons_self
  exact ⟨p,pr,rfl,h1,N.len _ h2,by rw [<- h1];exact N.lo _ h2⟩
theorem ZiW {ps:List (Str×V)}{x:Str}(v:V)(hx:x∈NS)(hnd:(ps.map (·.1)).Nodup)(hs:∀ p∈ps,p.1∈NS)(hm:∀ p∈ps,Zy p.1=Zy x):LeafG NS (Zy x) (Wu ps x v):=by
 have hk:=ZhH ps x v
 have hmem:∀ p∈Wu ps x v,p.1∈ps.map (·.1)\/p.1=x:=fun p hp=>by
  have h1:p.1∈(Wu ps x v).map (·.1):=Oc hp
  rw [hk] at h1
  by_cases h:x∈ps.map (·.1)
  ·rw [if_pos h] at h1;exact .inl h1
  ·rw [if_neg h] at h1
   rcases mem_append.mp h1 with z | z
   ·exact .inl z
   ·exact .inr (mem_singleton.mp z)
 refine ⟨fun z=>?_,?_,fun p hp=>?_,fun p hp=>?_⟩
 ·rw [z] at hk
  by_cases h:x∈ps.map (·.1)
  ·rw [if_pos h] at hk;rw [<- hk] at h;cases h
  ·rw [if_neg h] at hk;simp at hk
 ·rw [hk]
  by_cases h:x∈ps.map (·.1)
  ·rw [if_pos h];exact hnd
  ·rw [if_neg h,Pp]
   exact ⟨hnd,by simp,fun a ha b hb e=>h (by rw [mem_singleton.mp hb] at e;rw [<- e];exact ha)⟩
 ·rcases hmem p hp with z | z
  ·obtain ⟨q,hq,e⟩:=mem_map.mp z
   rw [<- e];exact hs q hq
  ·rw [z];exact hx
 ·rcases hmem p hp with z | z
  ·obtain ⟨q,hq,e⟩:=mem_map.mp z
   rw [<- e];exact hm q hq
  ·rw [z]
def upF (F:Str->Option V)(x:Str)(v:V):Str->Option V:=fun y=>if y=x then some v else F y
theorem ZiX {d lev r:Nat}{m:Int}{ps qs:List (Str×V)}{x:Str}{v:V}{num:Nat}(N:Yq NS)(hx:x∈NS)(hr:Xs x % 4 ^ lev=r)(hn:nds[num]?=some (.leaf m qs))(hm:m=Zy x)(G:LeafG NS (Zy x) (Wu ps x v))(hp:qs.Perm (Wu ps x v))
 (hF:∀ y∈NS,Xs y % 4 ^ lev=r->F y=lk ps y):Tri NS nds (upF F x v) d lev r num:=by
 subst hm
 have h:TriE NS nds (upF F x v) lev r num:=by
  refine .inr ⟨Zy x,qs,hn,G.perm hp,hr,fun y hy hry=>?_⟩
  rw [Zfw hp G.nd,ZlL]
  unfold upF
  by_cases h:y=x
  ·rw [if_pos h,if_pos h]
  ·rw [if_neg h,if_neg h];exact hF y hy hry
 cases d with
 | zero=>exact h
 | succ d=>exact .inl h
theorem ZiU {d lev r num:Nat}{n:Nd}(N:Yq NS)(h0:nds[0]?=some .bare)(hr:r < 4 ^ lev)(h:Tri NS nds F (d+1) lev r num)(hn:nds[num]?=some n)(hnb:n≠.bare) :
 (Xh num lev n).length=4/\∀ (i q:Nat),(Xh num lev n)[i]?=some q->Tri NS nds F d (lev+1) (r+i * 4 ^ lev) q:=by
 have wrapE:∀ {r' q:Nat},TriE NS nds F (lev+1) r' q->Tri NS nds F d (lev+1) r' q:=fun g=>by
  cases d with
  | zero=>exact g
  | succ d=>exact .inl g
 rcases h with h | ⟨qs,h1,h2,h3⟩
 ·rcases h with ⟨_,e,_⟩ | ⟨m,ps,e,G,hm,hF⟩
  ·rw [hn] at e;cases e;exact absurd rfl hnb
  ·rw [hn] at e;cases e
   obtain ⟨p1,pr,e1,e2,e3,e4⟩:=G.ok N
   refine ⟨rfl,fun i q hq=>?_⟩
   have hi:i < 4:=(Qf.mp hq).1
   have hq':(if i=Ya m lev then num else 0)=q:=by
    rcases i with _ | _ | _ | _ | i
    ·exact QG hq
    ·exact QG hq
    ·exact QG hq
    ·exact QG hq
    ·omega
   have hmm:m.toNat % 4 ^ (lev+1)=r+Ya m lev * 4 ^ lev:=by rw [WW,hm,XH e4]
   by_cases z:i=Ya m lev
   ·rw [if_pos z] at hq'
    subst hq'
    exact wrapE (.inr ⟨m,ps,hn,G,by rw [hmm,z],fun y hy hry=>hF y hy (Wy hr hry).1⟩)
   ·rw [if_neg z] at hq'
    subst hq'
    refine wrapE (.inl ⟨rfl,h0,fun y hy hry=>?_⟩)
    rw [hF y hy (Wy hr hry).1]
    refine Zfm fun p hp e=>z ?_
    have:=(Wy hr hry).2
    rw [<- this,<- e]
    unfold Xs
    rw [G.mrk p hp,XH e4]
 ·rw [hn] at h1;cases h1
  exact ⟨h2,h3⟩
theorem ZiQ {r num:Nat}{n:Nd}{x:Str}(N:Yq NS)(h:Tri NS nds F 0 5 r num)(hn:nds[num]?=some n)(hnb:n≠.bare)(hx:x∈NS)(hr:Xs x % 4 ^ 5=r):n.hasM (Zy x)=true:=by
 rcases h with ⟨_,e,_⟩ | ⟨m,ps,e,G,hm,hF⟩
 ·rw [hn] at e;cases e;exact absurd rfl hnb
 ·rw [hn] at e;cases e
  refine decide_eq_true ?_
  obtain ⟨p1,pr,e1,e2,e3,e4⟩:=G.ok N
  have h1:Zy p1.1 < 1024:=N.hi _ (G.sub p1 (by rw [e1];exact mem_cons_self))
  have h2:=N.hi x hx
  have h3:=N.lo x hx
  rw [e2] at h1
  unfold Xs at hr
  have h4:m.toNat % 1024=r:=hm
  have h5:(Zy x).toNat % 1024=r:=hr
  rw [Ny (by omega)] at h4 h5
  omega
theorem Zjv {d lev r num num':Nat}{qs:List Nat}{x:Str}{v:V}(N:Yq NS)(hr:r < 4 ^ lev)(hx:x∈NS)(hxr:Xs x % 4 ^ lev=r)(hl:qs.length=4)(hq:∀(i q:Nat),qs[i]?=some q->Tri NS nds F d (lev+1) (r+i * 4 ^ lev) q)
 (e:NEx nds nds') (hn:Tri NS nds' F' d (lev+1) (r+Ya (Zy x) lev * 4 ^ lev) num') (hF:∀ y,y≠x->F' y=F y) (h:nds'[num]?=some (.fork (qs.set (Ya (Zy x) lev) num'))):Tri NS nds' F' (d+1) lev r num:=by
 refine .inr ⟨_,h,by rw [length_set,hl],fun i q hi=>?_⟩
 have hi4:i < 4:=by rw [<- hl];have:=(Qf.mp hi).1;rwa [length_set] at this
 rw [getElem?_set] at hi
 by_cases z:Ya (Zy x) lev=i
 ·rw [if_pos z,if_pos (by rw [hl,z];exact hi4)] at hi
  cases hi
  rw [<- z]
  exact hn
 ·rw [if_neg z] at hi
  refine Tri.congr d (UQ hr hi4) (Tri.mono d (hq i q hi) e) fun y hy hry=>hF y fun w=>z ?_
  rw [w] at hry
  rw [XH (N.lo x hx)]
  exact (Wy hr hry).2
end
section
variable {P:Qk}{w:Qv}{K:Qa}{mg:Str->Option Qb}{base:Heap}{C Pl:Addr}{NS:List Str}
def VY (K:Qa)(C Pl:Addr)(NS:List Str):Nat->Sp
 | 0=>fun _ _ _ _=>False
 | d+1=>fun vs H Q _=>∃ (st ln dt:Addr) (nds:List Nd) (tabs:List (Zn×V)) (num lev r:Nat) (x:Str) (v:V) (F:Str->Option V),vs=[.ref st,iN num,iN lev,.str x,v]/\StoreAt K C st ln dt H nds tabs/\nds[0]?=some .bare/\Tri NS nds F d lev r num/\r < 4 ^ lev/\lev+d=5/\x∈NS/\Xs x % 4 ^ lev=r/\nds.length+d+1<=100000/\LamAt H Pl YX Wf /\
  ∀ (H':Hp) (nds':List Nd) (num':Nat),StoreAt K C st ln dt H' nds' tabs->NEx nds nds'->nds'.length<=nds.length+d+1->Tri NS nds' (upF F x v) d lev r num'->LamAt H' Pl YX Wf->Kq [ln,Pl] H H'->TF H H'->Q (iN num') H'
abbrev nPi:List Str:=["self","number","level","name","value"]
theorem scPI:Zm ["self","number","level","name","value","node","pairs","parts","figure"] nPi (Zj c_Store_put_in):=⟨rfl,rfl,rfl,by decide +kernel,rfl,by decide +kernel,by decide +kernel⟩
theorem ZaY {nds:List Nd}{F:Str->Option V}:∀{d lev r num:Nat},Tri NS nds F d lev r num->∃ n,nds[num]?=some n/\(n=.bare->num=0):=by
 have e:∀ {lev r num:Nat},TriE NS nds F lev r num->∃ n,nds[num]?=some n/\(n=.bare->num=0):=fun h=>by
  rcases h with ⟨h1,h2,_⟩ | ⟨m,ps,h1,_⟩
  ·exact ⟨_,h2,fun _=>h1⟩
  ·exact ⟨_,h1,fun z=>by cases z⟩
 intro d lev r num h
 cases d with
 | zero=>exact e h
 | succ d =>
  rcases h with h | ⟨qs,h1,_⟩
  ·exact e h
  ·exact ⟨_,h1,fun z=>by cases z⟩
theorem Zjf {nds:List Nd}{F:Str->Option V}{d lev r num:Nat}{n:Nd}{x:Str}(h0:nds[0]?=some .bare)(h:Tri NS nds F d lev r num)(hn:nds[num]?=some n)(hc:num=0\/n.hasM (Zy x)=true) :
 (n.pairs.map (·.1)).Nodup/\(∀ p∈n.pairs,p.1∈NS)/\(∀ p∈n.pairs,Zy p.1=Zy x)/\(∀ y∈NS,Xs y % 4 ^ lev=r->F y=lk n.pairs y)/\n.pairs.length<=NS.length:=by
 have e:TriE NS nds F lev r num->(n.pairs.map (·.1)).Nodup/\(∀ p∈n.pairs,p.1∈NS)/\(∀ p∈n.pairs,Zy p.1=Zy x)/\(∀ y∈NS,Xs y % 4 ^ lev=r->F y=lk n.pairs y)/\n.pairs.length<=NS.length:=fun g=>by
  rcases g with ⟨h1,h2,h3⟩ | ⟨m,ps,h1,G,hm,hF⟩
  ·rw [hn] at h2;cases h2
   exact ⟨List.nodup_nil,fun p hp=>(by cases hp),fun p hp=>(by cases hp),h3,QC _⟩
  ·rw [hn] at h1;cases h1
   rcases hc with z | z
   ·rw [z,h0] at hn;cases hn
   ·have z':m=Zy x:=of_decide_eq_true z
    exact ⟨G.nd,G.sub,fun p hp=>by rw [G.mrk p hp,z'],hF,G.few⟩
 cases d with
 | zero=>exact e h
 | succ d =>
  rcases h with h | ⟨qs,h1,_⟩
  ·exact e h
  ·rw [hn] at h1;cases h1
   rcases hc with z | z
   ·rw [z,h0] at hn;cases hn
   ·cases z
theorem ZkO {f:Addr}{fd:Qm}{d k:Nat}(N:Yq NS)(hk:2<=k)(F:Fun K "put_in" "Store.put_in" c_Store_put_in f fd)(T:Txt K mg)(TC:Xr K C)
 (DH:Def P w K mg base 1 "has_mark" ["node","number"] (VL K)) (DR:Def P w K mg base 1 "pairs_in" ["node"] (WB K)) (DM:Def P w K mg base 1 "mark" ["name"] WH) (DG:Def P w K mg base 1 "digit" ["number","level"] Ws)
 (DL:Def P w K mg base 2 "leaf_of" ["pairs"] (Zab K Pl YX)) (DO:Def P w K mg base 1 "fork_of" ["parts"] (Uf K)) (DK:DefM P w K mg base 1 C "keep" ["self","node"] (VQ K C)) (DF:DefM P w K mg base 2 C "fork_parts" ["self","number","level"] (Zjt K C))
 (DI:DefM P w K mg base k C "put_in" nPi (VY K C Pl NS d)):FnOk P w K mg base ZC (k+1) f fd nPi (VY K C Pl NS (d+1)):=by
 refine F.ok scPI (fun vs H Q E h=>?_) (fun cdv A outer s H vs Q E hr h=>?_)
 ·obtain ⟨st,ln,dt,nds,tabs,num,lev,r,x,v,F,rfl,_⟩:=h;rfl
 obtain ⟨st,ln,dt,nds,tabs,num,lev,r,x,v,Fm,rfl,S,h0,htri,hrl,hlev,hx,hxr,hlen,hL,q⟩:=h
 obtain ⟨tz,hz⟩:=T.zero
 have hr1:=hr.mono (show 1<=k by omega)
 have hr2:=hr.mono hk
 refine' ⟨?t,?h,?r⟩
 case h =>
  conv=>arg 2;whnf
  with_reducible refine' Ze ?a1 (Ze (ZZ ?a2 (Ze ?c1 (Ze ?c2 (Zh ?c3))) ZM) (Ze ?a3 (Ze ?a4 (Ze ?a5 (Zh ?a6)))))
  case a1=>exact Zv (i:=5) scPI.nd rfl (Qz rfl) (Zz ZB (Zu (pv 0) rfl) (pv 1) (fun _ _=>rfl))
  case a2=>exact PW.pt (ZgC (ZL Yx (pv 1) (ZR rfl hz (v:=.int 0) ⟨_,rfl⟩) (ZJ _)) (Zey (XS (ZI DH hr1 (Zb (pv 5) (Zb (ZI DM hr1 (Zb (pv 3) Za)) Za))))))
  case c1=>exact Zv (i:=6) scPI.nd rfl (Qz rfl) (YN (UA rfl) rfl T.dict (by decide +kernel) (Zb (ZI DR hr1 (Zb (pv 5) Za)) Za))
  case c2=>exact Vb (YL hr) (pv 6) (pv 3) (pv 4) rfl
  case c3=>exact Zq (ZH DK TC.cl hr1 (pv 0) (Zb (ZI DL hr2 (Zb (YN (Zbm rfl) rfl T.list (by decide +kernel) (Zb (Zho Sv SD PySem.F.type_dict_items ZiF (pv 6)) Za)) Za)) Za))
  case a3=>exact Zv (i:=7) scPI.nd rfl (Qz rfl) (ZH DF TC.cl hr2 (pv 0) (Zb (pv 1) (Zb (pv 2) Za)))
  case a4=>exact Zv (i:=8) scPI.nd rfl (Qz rfl) (ZI DG hr1 (Zb (ZI DM hr1 (Zb (pv 3) Za)) (Zb (pv 2) Za)))
  case a5=>exact Yu (ZH DI TC.cl hr (pv 0) (Zb (Zz ZB (pv 7) (pv 8) (fun _ _=>rfl)) (Zb (Zx YI (pv 2) Zi) (Zb (pv 3) (Zb (pv 4) Za))))) (Wm (pv 7) (pv 8) Xi)
  case a6=>exact Zq (ZH DK TC.cl hr1 (pv 0) (Zb (ZI DO hr1 (Zb (pv 7) Za)) Za))
 obtain ⟨n,hn,hbare⟩:=ZaY htri
 obtain ⟨as,a,nl,ha,hna⟩:=S.node hn
 obtain ⟨dx,ob⟩:=S.ob
 obtain ⟨tb,htb⟩:=hL.tbl
 have hst:st ∉ [Pl]:=fun z=>by rw [mem_singleton.mp z,htb] at ob;cases ob
 have hln:ln ∉ [Pl]:=fun z=>by rw [mem_singleton.mp z,htb] at nl;cases nl
 have hdt:dt ∉ [Pl]:=fun z=>by have e:=S.tb;rw [mem_singleton.mp z,htb] at e;cases e
 refine ⟨_,rfl,st,C,dx,_,_,rfl,ob,TC.cl,TC.nN,XT ln dt,_,rfl,ln,_,_,_,rfl,rfl,SqL.of nl,ZE (by rw [getElem?_map,ha];rfl),?_⟩
 refine ⟨_,rfl,rfl,_,rfl,?_⟩
 have ed:decide (iN num=V.int 0)=decide (num=0):=by
  by_cases z:num=0
  ·rw [decide_eq_true z,z];exact decide_eq_true rfl
  ·rw [decide_eq_false z]
   exact decide_eq_false fun y=>z (by have:=V.int.inj y;omega)
 rw [ed]
 rcases Classical.em (num=0\/n.hasM (Zy x)=true) with hc | hc
 ·obtain ⟨hnd,hsub,hmrk,hF,hfew⟩:=Zjf h0 htri hn hc
  by_cases z0:num=0
  rw [decide_eq_true z0]
  have s1:Same H H:=Same.refl H
  refine Yk (Yk ?_)
  rotate_left
  rw [decide_eq_false z0]
  refine ZP ⟨_,rfl,_,rfl,x,rfl,N.len x hx,fun H1 s1=>⟨a,n,Zy x,rfl,hna.tf s1.tf,_,rfl,?_⟩⟩
  rw [hc.resolve_left z0]
  refine Yk ?_
  all_goals
   have S1:=S.keep s1
   refine ⟨_,rfl,a,n,rfl,hna.tf s1.tf,fun pt H2 s2 hpt=>?_⟩
   obtain ⟨o,ts,ept,hod,hlts,hp⟩:=hpt
   have hfw:=N.few
   refine ⟨pt,ts,n.pairs,rfl,⟨o,ept,hod⟩,hlts,by omega,hp,hnd,fun dd hd=>?_⟩
   have hd0:H dd=none:=by
    cases e:H dd with
    | none=>rfl
    | some o=>rw [s2 _ _ (s1 _ _ e)] at hd;cases hd
   have s3:=Zk hd (.dK (n.pairs.map fun p=>((Qu p.1:Zn),p.2)))
   refine ⟨_,rfl,_,rfl,_,rfl,dd,_,rfl,DPut.k (k:=Qu x) Zf (by rw [length_map];exact QO (show n.pairs.length<=64 by omega) (by decide)),?_⟩
   have s4:Same H (upd (upd H2 dd (.dK (n.pairs.map fun p=>((Qu p.1:Zn),p.2)))) dd (.dK (Yp (n.pairs.map fun p=>((Qu p.1:Zn),p.2)) (Qu x) v))):=fun b o e=>by
    rw [Zg (Zt e hd0),Zg (Zt e hd0)];exact s2 _ _ (s1 _ _ e)
   have ed4:upd (upd H2 dd (.dK (n.pairs.map fun p=>((Qu p.1:Zn),p.2)))) dd (.dK (Yp (n.pairs.map fun p=>((Qu p.1:Zn),p.2)) (Qu x) v)) dd=some (.dK ((Wu n.pairs x v).map gK)):=by
    rw [Zf,<- Zed];rfl
   generalize upd (upd H2 dd (.dK (n.pairs.map fun p=>((Qu p.1:Zn),p.2)))) dd (.dK (Yp (n.pairs.map fun p=>((Qu p.1:Zn),p.2)) (Qu x) v))=H4 at *
   have S4:=S.keep s4
   obtain ⟨dx4,ob4⟩:=S4.ob
   refine ⟨_,rfl,st,dx4,_,rfl,ob4,ZW ln dt (by decide +kernel) (by decide +kernel),_,rfl,.inr (.inr (.inl ⟨rfl,.inl ⟨_,ed4⟩⟩)),dd,_,rfl,rfl,ed4,fun vv hvv=>?_⟩
   have s5:=Zk hvv (.ext (Zbq vv dd))
   refine ⟨vv,dd,_,rfl,Zf,s5 _ _ ed4,fun l ts2 H5 hl5 s5b hlt2 hnone htup hlst=>?_⟩
   have s6:Same H H5:=(s4.trans s5).trans s5b
   have G:=ZiW (NS:=NS) v hx hnd hsub hmrk
   have hPT:PairT H5 ts2 (Wu n.pairs x v):=by
    refine ⟨by rw [hlt2,length_map],fun i b p e1 e2=>?_⟩
    exact htup i b (gK p) e1 (by rw [getElem?_map,e2];rfl)
   have hL5:=LamAt.same hL s6
   refine ⟨l,ts2,Wu n.pairs x v,rfl,hlst,hPT,G.ne,by have:=G.few;omega,fun p hp=>N.len _ (G.sub p hp),hL5,fun a6 H6 p1 pr g6 L6 perm6 sort6 node6=>?_⟩
   have tb5:H5 Pl=some (.tbl tb):=s6 _ _ htb
   have tf6:TF H5 H6:=g6.tf tb5
   have S6:=(S.keep s6).kq g6.kq tf6 hst hln hdt
   refine ⟨st,ln,dt,a6,nds,tabs,_,rfl,S6,node6,by omega,fun H7 S7 k7 tf7=>?_⟩
   have nl6:∃ xs,H6 ln=some (.lst xs):=by obtain ⟨as6,e6,_⟩:=S6.nl;exact ⟨_,e6⟩
   have hmk:Zy p1.1=Zy x:=(G.perm perm6).mrk p1 mem_cons_self
   refine q H7 _ nds.length S7 (NEx.app nds _) (by rw [length_append];show nds.length+1<=_;omega) ?_ (L6.kq k7 fun b hb=>by rw [mem_singleton.mp hb];exact nl6) ?_ ((s6.tf.trans tf6).trans tf7)
   ·exact ZiX (ps:=n.pairs) N hx hxr (by rw [getElem?_append_right (Qh _),Gc];rfl) hmk G perm6 hF
   ·exact (Same.kq s6).trans ((g6.kq.sub fun b hb=>by simp at hb ⊢;exact .inr hb).trans (k7.sub fun b hb=>by simp at hb ⊢;exact .inl hb))
 ·have z0:num≠0:=fun z=>hc (.inl z)
  have zm:n.hasM (Zy x)=false:=by
   cases e:n.hasM (Zy x) with
   | false=>rfl
   | true=>exact absurd (.inr e) hc
  have hnb:n≠.bare:=fun z=>z0 (hbare z)
  rw [decide_eq_false z0]
  refine ZP ⟨_,rfl,_,rfl,x,rfl,N.len x hx,fun H1 s1=>⟨a,n,Zy x,rfl,hna.tf s1.tf,_,rfl,?_⟩⟩
  rw [zm]
  refine ZP ?_
  cases d with
  | zero =>
   have h5:lev=5:=by omega
   subst h5
   exact absurd (.inr (ZiQ N htri hn hnb hx hxr)) hc
  | succ d =>
   obtain ⟨hf4,hft⟩:=ZiU N h0 hrl htri hn hnb
   have hok:ZdM n:=by
    rcases htri with htri | ⟨qs,h1,_⟩
    ·rcases htri with ⟨z,_⟩ | ⟨m,ps,h1,G,_⟩
     ·exact absurd z z0
     ·rw [hn] at h1;cases h1;exact G.ok N
    ·rw [hn] at h1;cases h1;exact trivial
   have S1:=S.keep s1
   obtain ⟨dx1,ob1⟩:=S1.ob
   refine ⟨_,rfl,st,dx1,_,rfl,ob1,ZW ln dt (by decide +kernel) (by decide +kernel),_,rfl,_,rfl,st,ln,dt,nds,tabs,num,lev,n,rfl,S1,hn,hnb,hok,by omega,fun rl H2 hrl1 s2 el=>?_⟩
   refine ⟨_,rfl,x,rfl,N.len x hx,fun H3 s3=>⟨_,rfl,Zy x,lev,rfl,N.lo x hx,by omega,?_⟩⟩
   have s13:Same H H3:=(s1.trans s2).trans s3
   have S3:=S.keep s13
   have hrl0:H rl=none:=by
    cases e:H rl with
    | none=>rfl
    | some o=>rw [s1 _ _ e] at hrl1;cases hrl1
   have el3:=s3 _ _ el
   have hdl:Ya (Zy x) lev < (Xh num lev n).length:=by rw [hf4];exact Ut _ _
   have hq1:=getElem?_eq_getElem hdl
   generalize (Xh num lev n)[Ya (Zy x) lev]=q1 at hq1
   have hat:YH ((Xh num lev n).map iN) (Zy x / 4 ^ lev % 4)=some (iN q1):=by rw [<- Wz];exact ZE (by rw [getElem?_map,hq1];rfl)
   obtain ⟨dx3,ob3⟩:=S3.ob
   refine ⟨_,rfl,st,dx3,_,rfl,ob3,ZW ln dt (by decide +kernel) (by decide +kernel),_,rfl,_,rfl,rl,_,_,_,rfl,rfl,SqL.of el3,hat,_,rfl,_,_,rfl,rfl,_,rfl,_,rfl,?_⟩
   refine ⟨st,ln,dt,nds,tabs,q1,lev+1,_,x,v,Fm,rfl,S3,h0,hft _ _ hq1,UQ hrl (Ut _ _),by omega,hx,by rw [WW,hxr,XH (N.lo x hx)];rfl,by omega,LamAt.same hL s13,fun H5 nds5 num5 S5 ext5 len5 tri5 L5 kq5 tf5=>?_⟩
   have nrl:rl ∉ [ln,Pl]:=fun z=>by
    rcases mem_cons.mp z with z | z
    ·rw [z,nl] at hrl0;cases hrl0
    ·rw [mem_singleton.mp z,htb] at hrl0;cases hrl0
   have el5:=kq5 _ _ nrl el3
   have hix:XI ((Xh num lev n).map iN).length (Zy x / 4 ^ lev % 4)=some (Ya (Zy x) lev):=by
    rw [<- Wz,length_map]
    unfold XI
    rw [if_pos (by omega),if_pos (by omega)]
    rfl
   refine ⟨_,rfl,_,rfl,rl,_,_,_,rfl,rfl,el5,hix,?_⟩
   have tf6:=Zee (o:=.lst (((Xh num lev n).map iN).set (Ya (Zy x) lev) (iN num5))) el5
   have k6:Kq [rl] H5 (upd H5 rl (.lst (((Xh num lev n).map iN).set (Ya (Zy x) lev) (iN num5)))):=ZaZ
   have nst:st ∉ [rl]:=fun z=>by rw [<- mem_singleton.mp z,ob] at hrl0;cases hrl0
   have nln:ln ∉ [rl]:=fun z=>by rw [<- mem_singleton.mp z,nl] at hrl0;cases hrl0
   have ndt:dt ∉ [rl]:=fun z=>by rw [<- mem_singleton.mp z,S.tb] at hrl0;cases hrl0
   have S6:=S5.kq k6 tf6 nst nln ndt
   have el6:upd H5 rl (.lst (((Xh num lev n).map iN).set (Ya (Zy x) lev) (iN num5))) rl=some (.lst (((Xh num lev n).set (Ya (Zy x) lev) num5).map iN)):=by rw [Zf,map_set]
   have L6:=L5.kq k6 fun b hb=>by rw [mem_singleton.mp hb];exact ⟨_,el5⟩
   have kh:Kq [ln,Pl] H (upd H5 rl (.lst (((Xh num lev n).map iN).set (Ya (Zy x) lev) (iN num5)))):=fun b o nb e=>by
    rw [Zg (Zt e hrl0)];exact kq5 _ _ nb (s13 _ _ e)
   generalize upd H5 rl (.lst (((Xh num lev n).map iN).set (Ya (Zy x) lev) (iN num5)))=H6 at *
   obtain ⟨dx6,ob6⟩:=S6.ob
   refine ⟨_,rfl,st,dx6,_,rfl,ob6,ZW ln dt (by decide +kernel) (by decide +kernel),_,rfl,rl,(Xh num lev n).set (Ya (Zy x) lev) num5,rfl,el6,by rw [length_set,hf4],fun a7 H7 s7 node7=>?_⟩
   have S7:=S6.keep s7
   refine ⟨st,ln,dt,a7,nds5,tabs,_,rfl,S7,node7,by omega,fun H8 S8 k8 tf8=>?_⟩
   have nl7:∃ xs,H7 ln=some (.lst xs):=by obtain ⟨as7,e7,_⟩:=S7.nl;exact ⟨_,e7⟩
   refine q H8 _ nds5.length S8 (ext5.trans (NEx.app nds5 _)) (by rw [length_append];show nds5.length+1<=_;omega) ?_ ((LamAt.same L6 s7).kq k8 fun b hb=>by rw [mem_singleton.mp hb];exact nl7) ?_ ((((s13.tf.trans tf5).trans tf6).trans s7.tf).trans tf8)
   ·refine Zjv (v:=v) (num':=num5) (F:=Fm) (qs:=Xh num lev n) N hrl hx hxr hf4 hft (ext5.trans (NEx.app nds5 _)) (Tri.mono d tri5 (NEx.app nds5 _)) (fun y hy=>if_neg hy) ?_
    rw [getElem?_append_right (Qh _),Gc];rfl
   ·exact (kh.trans (Same.kq s7)).trans (k8.sub fun b hb=>by simp at hb ⊢;exact .inl hb)
end
section
variable {P:Qk}{w:Qv}{K:Qa}{mg:Str->Option Qb}{base:Heap}{C Pl:Addr}{NS:List Str}
theorem ZeW {f:Addr}{fd:Qm}(N:Yq NS)(F:Fun K "put_in" "Store.put_in" c_Store_put_in f fd)(T:Txt K mg)(TC:Xr K C)
 (DH:Def P w K mg base 1 "has_mark" ["node","number"] (VL K)) (DR:Def P w K mg base 1 "pairs_in" ["node"] (WB K)) (DM:Def P w K mg base 1 "mark" ["name"] WH) (DG:Def P w K mg base 1 "digit" ["number","level"] Ws)
 (DL:Def P w K mg base 2 "leaf_of" ["pairs"] (Zab K Pl YX)) (DO:Def P w K mg base 1 "fork_of" ["parts"] (Uf K)) (DK:DefM P w K mg base 1 C "keep" ["self","node"] (VQ K C)) (DF:DefM P w K mg base 2 C "fork_parts" ["self","number","level"] (Zjt K C))
 (b:Binds K fd nPi []) (mt:VR K C "put_in" f):∀ d,FnOk P w K mg base ZC (2+d) f fd nPi (VY K C Pl NS d)
 | 0=>F.ok scPI (fun _ _ _ _ h=>h.elim) (fun _ _ _ _ _ _ _ _ _ h=>h.elim)
 | d+1=>ZkO N (Nz 2 d) F T TC DH DR DM DG DL DO DK DF ⟨f,fd,ZeW N F T TC DH DR DM DG DL DO DK DF b mt d,b,mt⟩
def Zff:Sp:=fun vs H Q _=>∃ u v,vs=[u,v]/\scal u v=true/\Q (.bl (decide (u=v))) H
theorem scAl:Zm ["one","other"] ["one","other"] (Zj s_alike):=⟨rfl,rfl,rfl,by decide +kernel,rfl,by decide +kernel,by decide +kernel⟩
theorem ZjO {f:Addr}{fd:Qm}(F:Fun K "alike" "alike" s_alike f fd):FnOk P w K mg base ZC 1 f fd ["one","other"] Zff:=by
 refine F.ok scAl (fun vs H Q E h=>?_) (fun cdv A outer s H vs Q E hr h=>?_)
 ·obtain ⟨u,v,rfl,_⟩:=h;rfl
 obtain ⟨u,v,rfl,hs,q⟩:=h
 exact ⟨_,Zh (Zq (Wv Yx (pv 0) (pv 1) (ZJ _))),⟨_,rfl,_,rfl,hs,q⟩⟩
def ValV:V->Prop
 | .int _=>True
 | .str _=>True
 | _=>False
theorem ValV.scal {o:Option V}{v:V}(h:ValV v)(ho:∀ u,o=some u->ValV u):scal (o.getD .non) v=true:=by
 cases o with
 | none=>cases v<;>first | rfl | exact h.elim
 | some u =>
  have hu:=ho u rfl
  cases u<;>first | exact hu.elim | (cases v<;>first | rfl | exact h.elim)
theorem ValV.ne {v:V}(h:ValV v):v≠.non:=fun z=>by subst z;exact h
theorem Vn {nds:List Nd}{F:Str->Option V}{t:Nat}{x:Str}(N:Yq NS)(h:Tri NS nds F 5 0 0 t)(hx:x∈NS) :
 ∃ ws e n,Xk nds (Zy x) 6 0 t=some (ws++[e])/\nds[e]?=some n/\n.pairs.length<=1000/\(n.pairs.map (·.1)).Nodup/\lk n.pairs x=F x:=by
 obtain ⟨ws,e,n,e1,e2,e3⟩:=Zli N 5 (by decide) h hx (by rw [Nc,NM])
 refine ⟨ws,e,n,e1,e2,?_⟩
 have hf:=N.few
 rcases e3 with ⟨_,rfl,z⟩ | ⟨m,ps,rfl,G,z⟩
 ·exact ⟨QC _,List.nodup_nil,by rw [z];rfl⟩
 ·exact ⟨by have:=G.few;show ps.length<=1000;omega,G.nd,z.symm⟩
def ZkD (K:Qa)(C Pl:Addr)(NS:List Str):Sp:=fun vs H Q _=>∃(st ln dt:Addr)(nds:List Nd)(tabs:List (Zn×V))(t:Nat)(x:Str)(v:V)(F:Str->Option V),vs=[.ref st,iN t,.str x,v]/\StoreAt K C st ln dt H nds tabs/\nds[0]?=some .bare/\(ZD tabs (QT (t:Int))).isSome=true/\Tri NS nds F 5 0 0 t/\x∈NS/\ValV v/\(∀ u,F x=some u->ValV u)/\nds.length+6<=100000/\tabs.length<=100000/\LamAt H Pl YX Wf /\
 ∀ (H':Hp) (nds':List Nd) (tabs':List (Zn×V)) (t':Nat),StoreAt K C st ln dt H' nds' tabs'->NEx nds nds'->nds'.length<=nds.length+6->tabs'.length<=tabs.length+1->(∀ k,(ZD tabs k).isSome=true->(ZD tabs' k).isSome=true)->(ZD tabs' (QT (t':Int))).isSome=true->Tri NS nds' (upF F x v) 5 0 0 t'->LamAt H' Pl YX Wf->Kq [ln,dt,Pl] H H'->TF H H'->Q (iN t') H'
theorem scPu:Zm ["self","table","name","value"] ["self","table","name","value"] (Zj c_Store_put):=⟨rfl,rfl,rfl,by decide +kernel,rfl,by decide +kernel,by decide +kernel⟩
theorem Znj {f:Addr}{fd:Qm}(N:Yq NS)(F:Fun K "put" "Store.put" c_Store_put f fd)(TC:Xr K C)(DA:Def P w K mg base 1 "alike" ["one","other"] Zff)(DLk:DefM P w K mg base 3 C "looked" ["self","table","name"] (WZ K C))
 (DAs:DefM P w K mg base 1 C "as_table" ["self","number"] (Zgq K C)) (DI:DefM P w K mg base 8 C "put_in" nPi (VY K C Pl NS 6)):FnOk P w K mg base ZC 9 f fd ["self","table","name","value"] (ZkD K C Pl NS):=by
 refine F.ok scPu (fun vs H Q E h=>?_) (fun cdv A outer s H vs Q E hr h=>?_)
 ·obtain ⟨st,ln,dt,nds,tabs,t,x,v,F,rfl,_⟩:=h;rfl
 obtain ⟨st,ln,dt,nds,tabs,t,x,v,Fm,rfl,S,h0,htab,htri,hx,hv,hFv,hlen,htl,hL,q⟩:=h
 have hr1:=hr.mono (show 1<=8 by decide)
 have hr3:=hr.mono (show 3<=8 by decide)
 refine' ⟨?t,?h,?r⟩
 case h =>
  conv=>arg 2;whnf
  with_reducible refine' Ze (ZZ ?a1 (Zh ?a2) ZM) (Zh ?a3)
  case a1=>exact XS (ZI DA hr1 (Zb (ZH DLk TC.cl hr3 (pv 0) (Zb (pv 1) (Zb (pv 2) Za))) (Zb (pv 3) Za)))
  case a2=>exact Zq (pv 1)
  case a3=>exact Zq (ZH DAs TC.cl hr1 (pv 0) (Zb (ZH DI TC.cl hr (pv 0) (Zb (pv 1) (Zb Zi (Zb (pv 2) (Zb (pv 3) Za))))) Za))
 obtain ⟨dx,ob⟩:=S.ob
 obtain ⟨ws,e,n,e1,e2,e3,e4,e5⟩:=Vn N htri hx
 refine ⟨_,rfl,st,dx,_,rfl,ob,ZW ln dt (by decide +kernel) (by decide +kernel),_,rfl,_,rfl,st,ln,dt,nds,tabs,t,x,6,ws,e,n,rfl,S,htab,N.len x hx,N.lo x hx,by decide,e1,e2,e3,e4,fun H1 s1=>?_⟩
 rw [e5]
 refine ⟨_,rfl,_,_,rfl,hv.scal hFv,_,rfl,?_⟩
 have S1:=S.keep s1
 have hL1:=LamAt.same hL s1
 by_cases hc:(Fm x).getD .non=v
 ·rw [decide_eq_true hc]
  refine Yk ⟨_,rfl,q H1 nds tabs t S1 (NEx.refl _) (by omega) (by omega) (fun _ h=>h) htab (Tri.congr 5 (by decide) htri fun y _ _=>?_) hL1 (Same.kq s1) s1.tf⟩
  unfold upF
  by_cases z:y=x
  ·rw [if_pos z,z]
   cases eF:Fm x with
   | none=>rw [eF] at hc;exact absurd hc.symm hv.ne
   | some u=>rw [eF] at hc;exact congrArg some hc.symm
  ·rw [if_neg z]
 ·rw [decide_eq_false hc]
  obtain ⟨dx1,ob1⟩:=S1.ob
  refine ZP ⟨_,rfl,st,dx1,_,rfl,ob1,ZW ln dt (by decide +kernel) (by decide +kernel),_,rfl,st,dx1,_,rfl,ob1,ZW ln dt (by decide +kernel) (by decide +kernel),_,rfl,_,rfl,_,rfl,?_⟩
  refine ⟨st,ln,dt,nds,tabs,t,0,0,x,v,Fm,rfl,S1,h0,htri,by decide,rfl,hx,by rw [Nc,NM],hlen,hL1,fun H2 nds2 num2 S2 ext2 len2 tri2 L2' kq2 tf2=>?_⟩
  refine ⟨st,ln,dt,nds2,tabs,num2,rfl,S2,by omega,fun H3 S3 k3 tf3=>?_⟩
  obtain ⟨tb,htb⟩:=L2'.tbl
  refine q H3 nds2 _ num2 S3 ext2 len2 (XQ _ _ _) (fun k hk=>?_) (by rw [Uv,if_pos rfl];rfl) tri2 ?_ ?_ ((s1.tf.trans tf2).trans tf3)
  ·rw [Uv]
   by_cases z:k=QT (num2:Int)
   ·rw [if_pos z];rfl
   ·rw [if_neg z];exact hk
  ·have hdl:∀ b∈[dt],∃ xs,H2 b=some (.dK xs):=fun b hb=>by rw [mem_singleton.mp hb];exact ⟨_,S2.tb⟩
   rcases L2' with h | ⟨c,h,h2⟩
   ·exact .inl (k3 _ _ (fun z=>by obtain ⟨_,e⟩:=hdl _ z;rw [h] at e;cases e) h)
   ·exact .inr ⟨c,k3 _ _ (fun z=>by obtain ⟨_,e⟩:=hdl _ z;rw [h] at e;cases e) h,k3 _ _ (fun z=>by obtain ⟨_,e⟩:=hdl _ z;rw [h2] at e;cases e) h2⟩
  ·exact ((Same.kq s1).trans (kq2.sub fun b hb=>by simp at hb ⊢;rcases hb with z | z;exact .inl z;exact .inr (.inr z))).trans (k3.sub fun b hb=>by simp at hb ⊢;exact .inr (.inl hb))
end
section
variable {NS:List Str}{nds nds':List Nd}{F F':Str->Option V}
def dnF (F:Str->Option V)(x:Str):Str->Option V:=fun y=>if y=x then none else F y
def Ww (ps:List (Str×V))(x:Str):List (Str×V):=ps.filter fun p=>!decide (p.1=x)
theorem ZeY (ps:List (Str×V))(x y:Str):lk (Ww ps x) y=if y=x then none else lk ps y:=by
 induction ps with
 | nil => by_cases h:y=x
          · rw [if_pos h];rfl
          · rw [if_neg h];rfl
 | cons p ps ih =>
   unfold Ww at ih ⊢
   rw [NA]
   by_cases hp:p.1=x
   · rw [decide_eq_true hp]
     show lk (ps.filter fun p=>!decide (p.1=x)) y=_
     rw [ih,UU]
     by_cases h:y=x
     · rw [if_pos h,if_pos h]
     · rw [if_neg h,if_neg h,if_neg fun z=>h (by rw [<- z,hp])]
   · rw [decide_eq_false hp]
     show lk (p::ps.filter fun p=>!decide (p.1=x)) y=_
     rw [UU,ih,UU]
     by_cases h:y=x
     · rw [if_pos h,if_pos h,if_neg fun z=>hp (by rw [z,h])]
     · rw [if_neg h,if_neg h]
theorem LeafG.but {m:Int}{ps:List (Str×V)}{x:Str}(G:LeafG NS m ps)(h:Ww ps x≠[]):LeafG NS m (Ww ps x):=by
 have hs:(Ww ps x).Sublist ps:=Ti
 exact ⟨h,G.nd.sublist (hs.map (·.1)),fun p hp=>G.sub p (hs.subset hp),fun p hp=>G.mrk p (hs.subset hp)⟩
theorem ZcN {d lev r num:Nat}(h:TriE NS nds F lev r num):Tri NS nds F d lev r num:=by
 cases d with
 | zero=>exact h
 | succ d=>exact .inl h
theorem ZiC {d lev r num:Nat}{n:Nd}{x:Str}{v0:V}(h:Tri NS nds F d lev r num)(hn:nds[num]?=some n)(hx:x∈NS)(hxr:Xs x % 4 ^ lev=r)(hF:F x=some v0) :
 (∃ ps,n=.leaf (Zy x) ps/\LeafG NS (Zy x) ps/\∀ y∈NS,Xs y % 4 ^ lev=r->F y=lk ps y)\/∃ qs d',d=d'+1/\n=.fork qs/\qs.length=4/\∀ i q,qs[i]?=some q->Tri NS nds F d' (lev+1) (r+i * 4 ^ lev) q:=by
 have e:TriE NS nds F lev r num->∃ ps,n=.leaf (Zy x) ps/\LeafG NS (Zy x) ps/\∀ y∈NS,Xs y % 4 ^ lev=r->F y=lk ps y:=fun g=>by
  rcases g with ⟨_,_,h3⟩ | ⟨m,ps,h1,G,_,h4⟩
  ·rw [h3 x hx hxr] at hF;cases hF
  ·rw [hn] at h1;cases h1
   have hm:Zy x=m:=by
    rw [h4 x hx hxr] at hF
    exact G.mrk _ ((VO G.nd).mp hF)
   subst hm
   exact ⟨ps,rfl,G,h4⟩
 cases d with
 | zero=>exact .inl (e h)
 | succ d =>
  rcases h with h | ⟨qs,h1,h2,h3⟩
  ·exact .inl (e h)
  ·rw [hn] at h1;cases h1
   exact .inr ⟨qs,d,rfl,rfl,h2,h3⟩
theorem Zju {lev r num:Nat}{ps qs:List (Str×V)}{x:Str}(d:Nat)(hr:Xs x % 4 ^ lev=r)(hn:nds[num]?=some (.leaf (Zy x) qs))(G:LeafG NS (Zy x) (Ww ps x))(hp:qs.Perm (Ww ps x))(hF:∀ y∈NS,Xs y % 4 ^ lev=r->F y=lk ps y):Tri NS nds (dnF F x) d lev r num:=by
 refine ZcN (.inr ⟨Zy x,qs,hn,G.perm hp,hr,fun y hy hry=>?_⟩)
 rw [Zfw hp G.nd,ZeY]
 unfold dnF
 by_cases h:y=x
 ·rw [if_pos h,if_pos h]
 ·rw [if_neg h,if_neg h];exact hF y hy hry
theorem Zjd {lev r:Nat}{ps:List (Str×V)}{x:Str}(d:Nat)(h0:nds[0]?=some .bare)(hb:Ww ps x=[])(hF:∀ y∈NS,Xs y % 4 ^ lev=r->F y=lk ps y):Tri NS nds (dnF F x) d lev r 0:=by
 refine ZcN (.inl ⟨rfl,h0,fun y hy hry=>?_⟩)
 have:=ZeY ps x y
 rw [hb,Zii] at this
 unfold dnF
 by_cases h:y=x
 ·rw [if_pos h]
 ·rw [if_neg h] at this ⊢;rw [hF y hy hry];exact this.symm
theorem Zhi {d lev r num':Nat}{qs:List Nat}{x:Str}(N:Yq NS)(hr:r < 4 ^ lev)(hx:x∈NS)(hxr:Xs x % 4 ^ lev=r)(hl:qs.length=4)(hq:∀(i q:Nat),qs[i]?=some q->Tri NS nds F d (lev+1) (r+i * 4 ^ lev) q)
 (e:NEx nds nds') (hn:Tri NS nds' F' d (lev+1) (r+Ya (Zy x) lev * 4 ^ lev) num') (hF:∀ y,y≠x->F' y=F y) (i q:Nat) (hi:(qs.set (Ya (Zy x) lev) num')[i]?=some q):Tri NS nds' F' d (lev+1) (r+i * 4 ^ lev) q:=by
 have hi4:i < 4:=by rw [<- hl];have:=(Qf.mp hi).1;rwa [length_set] at this
 rw [getElem?_set] at hi
 by_cases z:Ya (Zy x) lev=i
 ·rw [if_pos z,if_pos (by rw [hl,z];exact hi4)] at hi
  cases hi
  rw [<- z]
  exact hn
 ·rw [if_neg z] at hi
  refine Tri.congr d (UQ hr hi4) (Tri.mono d (hq i q hi) e) fun y hy hry=>hF y fun w=>z ?_
  rw [w] at hry
  rw [XH (N.lo x hx)]
  exact (Wy hr hry).2
theorem Zbb {qs:List Nat}{q:Nat}(h:(qs.filter fun p=>!decide (p=0))=[q]):∃ i:Nat,qs[i]?=some q/\q≠0/\∀(j p:Nat),qs[j]?=some p->j≠i->p=0:=by
 induction qs with
 | nil=>cases h
 | cons a qs ih =>
  rw [NA] at h
  by_cases ha:a=0
  ·rw [decide_eq_true ha] at h
   obtain ⟨i,h1,h2,h3⟩:=ih h
   refine ⟨i+1,h1,h2,fun j p hj hne=>?_⟩
   cases j with
   | zero=>cases hj;exact ha
   | succ j=>exact h3 j p hj fun z=>hne (by rw [z])
  ·rw [decide_eq_false ha] at h
   have h':a::(qs.filter fun p=>!decide (p=0))=[q]:=h
   obtain ⟨e1,e2⟩:=List.cons.inj h'
   refine ⟨0,by rw [e1];rfl,by rw [<- e1];exact ha,fun j p hj hne=>?_⟩
   cases j with
   | zero=>exact absurd rfl hne
   | succ j =>
    have hp:p∈qs:=mem_of_getElem? hj
    by_cases z:p=0
    ·exact z
    ·have:p∈qs.filter fun p=>!decide (p=0):=mem_filter.mpr ⟨hp,by rw [decide_eq_false z];rfl⟩
     rw [e2] at this;cases this
theorem Zns {d lev r q:Nat}{qs:List Nat}{m:Int}{ps:List (Str×V)}(N:Yq NS)(h0:nds[0]?=some .bare)(hr:r < 4 ^ lev)(hl:qs.length=4)(hq:∀(i q:Nat),qs[i]?=some q->Tri NS nds F d (lev+1) (r+i * 4 ^ lev) q)
 (h1:(qs.filter fun p=>!decide (p=0))=[q]) (hn:nds[q]?=some (.leaf m ps)):Tri NS nds F (d+1) lev r q:=by
 obtain ⟨i,hi,hq0,hoth⟩:=Zbb h1
 have leafE:TriE NS nds F (lev+1) (r+i * 4 ^ lev) q:=by
  have:=hq i q hi
  cases d with
  | zero=>exact this
  | succ d =>
   rcases this with h | ⟨qs',h,_⟩
   ·exact h
   ·rw [hn] at h;cases h
 rcases leafE with ⟨z,_⟩ | ⟨m',ps',e,G,hm,hF⟩
 ·exact absurd z hq0
 ·rw [hn] at e;cases e
  obtain ⟨p1,pr,e1,e2,e3,e4⟩:=G.ok N
  obtain ⟨hm1,hm2⟩:=Wy hr hm
  refine .inl (.inr ⟨m,ps,hn,G,hm1,fun y hy hry=>?_⟩)
  have hj:Ya (Zy y) lev < qs.length:=by rw [hl];exact Ut _ _
  have hyr:Xs y % 4 ^ (lev+1)=r+Ya (Zy y) lev * 4 ^ lev:=by rw [WW,hry,XH (N.lo y hy)];rfl
  by_cases z:Ya (Zy y) lev=i
  ·rw [z] at hyr;exact hF y hy hyr
  ·have hz:=hoth _ _ (getElem?_eq_getElem hj) z
   have ht:=hq _ _ (getElem?_eq_getElem hj)
   rw [hz] at ht
   have hE:TriE NS nds F (lev+1) (r+Ya (Zy y) lev * 4 ^ lev) 0:=by
    cases d with
    | zero=>exact ht
    | succ d =>
     rcases ht with h | ⟨qs',h,_⟩
     ·exact h
     ·rw [h0] at h;cases h
   rcases hE with ⟨_,_,h3⟩ | ⟨m',ps',e,_⟩
   ·rw [h3 y hy hyr]
    refine (Zfm fun p hp e=>z ?_).symm
    rw [XH (N.lo y hy),<- hm2,<- e,G.mrk p hp]
   ·rw [h0] at e;cases e
theorem ZaX {d lev r num:Nat}{qs:List Nat}(hn:nds[num]?=some (.fork qs))(hl:qs.length=4)(hq:∀(i q:Nat),qs[i]?=some q->Tri NS nds F d (lev+1) (r+i * 4 ^ lev) q):Tri NS nds F (d+1) lev r num:=.inr ⟨qs,hn,hl,hq⟩
end
theorem ZbX {X:Cx}{K:Qa}(hK:X.K=K):IxR X (rIxT K):=by subst hK;exact YF
section
variable {P:Qk}{w:Qv}{K:Qa}{mg:Str->Option Qb}{base:Heap}{C Pl:Addr}{NS:List Str}
def Zbp (K:Qa)(C Pl:Addr)(NS:List Str):Nat->Sp
 | 0=>fun _ _ _ _=>False
 | d+1=>fun vs H Q _=>∃ (st ln dt:Addr) (nds:List Nd) (tabs:List (Zn×V)) (num lev r:Nat) (x:Str) (v0:V) (F:Str->Option V),vs=[.ref st,iN num,iN lev,.str x]/\StoreAt K C st ln dt H nds tabs/\nds[0]?=some .bare/\Tri NS nds F d lev r num/\r < 4 ^ lev/\lev+d=5/\x∈NS/\Xs x % 4 ^ lev=r/\F x=some v0/\nds.length+d+1<=100000/\LamAt H Pl YX Wf /\
  ∀ (H':Hp) (nds':List Nd) (num':Nat),StoreAt K C st ln dt H' nds' tabs->NEx nds nds'->nds'.length<=nds.length+d+1->Tri NS nds' (dnF F x) d lev r num'->LamAt H' Pl YX Wf->Kq [ln,Pl] H H'->TF H H'->Q (iN num') H'
abbrev nTk:List Str:=["self","number","level","name"]
abbrev nTa:List Str:=["self","number","level","name","node","left","parts","figure","filled"]
theorem scTk:Zm nTa nTk (Zj c_Store_taken_from):=⟨rfl,rfl,rfl,by decide +kernel,rfl,by decide +kernel,by decide +kernel⟩
theorem ZmI {f : Addr}{fd:Qm}{d k:Nat}(N:Yq NS)(hk:2<=k)(F:Fun K "taken_from" "Store.taken_from" c_Store_taken_from f fd)(T:Txt K mg)(TC:Xr K C)
 (DH:Def P w K mg base 1 "has_mark" ["node","number"] (VL K)) (DP:Def P w K mg base 1 "parts_in" ["node"] (UW K)) (DR:Def P w K mg base 1 "pairs_in" ["node"] (WB K)) (DM:Def P w K mg base 1 "mark" ["name"] WH) (DG:Def P w K mg base 1 "digit" ["number","level"] Ws)
 (DL:Def P w K mg base 2 "leaf_of" ["pairs"] (Zab K Pl YX)) (DO:Def P w K mg base 1 "fork_of" ["parts"] (Uf K)) (DK:DefM P w K mg base 1 C "keep" ["self","node"] (VQ K C))
 (DI:DefM P w K mg base k C "taken_from" nTk (Zbp K C Pl NS d)):FnOk P w K mg base ZC (k+1) f fd nTk (Zbp K C Pl NS (d+1)):=by
 refine F.ok scTk (fun vs H Q E h=>?_) (fun cdv A outer s H vs Q E hr h=>?_)
 ·obtain ⟨st,ln,dt,nds,tabs,num,lev,r,x,v0,F,rfl,_⟩:=h;rfl
 obtain ⟨st,ln,dt,nds,tabs,num,lev,r,x,v0,Fm,rfl,S,h0,htri,hrl,hlev,hx,hxr,hFx,hlen,hL,q⟩:=h
 obtain ⟨tz,hz⟩:=T.zero
 have hr1:=hr.mono (show 1<=k by omega)
 have hr2:=hr.mono hk
 refine' ⟨?t,?h,?r⟩
 case h =>
  conv=>arg 2;whnf
  with_reducible refine' Ze ?a1 (Ze (ZZ ?a2 (Ze ?c1 (Zh ?c2)) ZM) (Ze ?a3 (Ze ?a4 (Ze ?a5 (Ze ?a6 (Ze (ZZ ?a7 (Zh ?a8) ZM) (Zh ?a9)))))))
  case a1=>exact Zv (i:=4) scTk.nd rfl (Qz rfl) (Zz ZB (Zu (pv 0) rfl) (pv 1) (fun _ _=>rfl))
  case a2=>exact XS (ZI DH hr1 (Zb (pv 4) (Zb (ZI DM hr1 (Zb (pv 3) Za)) Za)))
  case c1=>exact UL (i:=5) (CompOk.of nTa c_Store_taken_from rfl rfl (by decide +kernel)) rfl scTk.nd rfl (Qz rfl) (ZhM (ZI DR hr1 (Zb (pv 4) Za))) (fun _ _ _ _ _=>ZL UC (Zz (ZbX (K:=K) rfl) (pv 9) Zi (fun _ _=>rfl)) (pv 3) (ZJ _)) (fun _ _ _ _ _=>pv 9) rfl
  case c2=>exact Zq (Yo (Ud (pv 5) (fun _=>rfl)) (ZH DK TC.cl hr1 (pv 0) (Zb (ZI DL hr2 (Zb (pv 5) Za)) Za)) (ZR rfl hz (v:=.int 0) ⟨_,rfl⟩))
  case a3=>exact Zv (i:=6) scTk.nd rfl (Qz rfl) (YN Uk rfl T.list (by decide +kernel) (Zb (ZI DP hr1 (Zb (pv 4) Za)) Za))
  case a4=>exact Zv (i:=7) scTk.nd rfl (Qz rfl) (ZI DG hr1 (Zb (ZI DM hr1 (Zb (pv 3) Za)) (Zb (pv 2) Za)))
  case a5=>exact Yu (ZH DI TC.cl hr (pv 0) (Zb (Zz ZB (pv 6) (pv 7) (fun _ _=>rfl)) (Zb (Zx YI (pv 2) Zi) (Zb (pv 3) Za)))) (Wm (pv 6) (pv 7) Xi)
  case a6=>exact UL (i:=8) (CompOk.of nTa c_Store_taken_from rfl rfl (by decide +kernel)) rfl scTk.nd rfl (Qz rfl) (Zao (pv 6)) (fun _ _ _ _ _=>ZL UC (pv 9) (ZR rfl hz (v:=.int 0) ⟨_,rfl⟩) (ZJ _)) (fun _ _ _ _ _=>pv 9) rfl
  case a7=>exact PW.pt (VW (ZL Yx (Zr ZO rfl T.len QM (Zb (pv 8) Za)) Zi (ZJ _)) (UY (Ud (ZI DR hr1 (Zb (Zz ZB (Zu (pv 0) rfl) (Zz ZB (pv 8) Zi (fun _ _=>rfl)) (fun _ _=>rfl)) Za)) (fun _=>rfl))))
  case a8=>exact Zq (Zz ZB (pv 8) Zi (fun _ _=>rfl))
  case a9=>exact Zq (ZH DK TC.cl hr1 (pv 0) (Zb (ZI DO hr1 (Zb (pv 6) Za)) Za))
 obtain ⟨n,hn,hbare⟩:=ZaY htri
 obtain ⟨as,a,nl,ha,hna⟩:=S.node hn
 obtain ⟨dx,ob⟩:=S.ob
 obtain ⟨tb,htb⟩:=hL.tbl
 have hst:st ∉ [Pl]:=fun z=>by rw [mem_singleton.mp z,htb] at ob;cases ob
 have hln:ln ∉ [Pl]:=fun z=>by rw [mem_singleton.mp z,htb] at nl;cases nl
 have hdt:dt ∉ [Pl]:=fun z=>by have e:=S.tb;rw [mem_singleton.mp z,htb] at e;cases e
 refine ⟨_,rfl,st,C,dx,_,_,rfl,ob,TC.cl,TC.nN,XT ln dt,_,rfl,ln,_,_,_,rfl,rfl,SqL.of nl,ZE (by rw [getElem?_map,ha];rfl),?_⟩
 refine ⟨_,rfl,_,rfl,x,rfl,N.len x hx,fun H1 s1=>⟨a,n,Zy x,rfl,hna.tf s1.tf,_,rfl,?_⟩⟩
 rcases ZiC htri hn hx hxr hFx with ⟨ps,rfl,G,hF⟩ | ⟨qs,d',rfl,rfl,hq4,hqs⟩
 ·rw [show (Nd.leaf (Zy x) ps).hasM (Zy x)=true from decide_eq_true rfl]
  refine Yk ?_
  refine ⟨_,rfl,a,_,rfl,hna.tf s1.tf,fun pt H2 s2 hpt=>?_⟩
  obtain ⟨o,ts,ept,hod,hlts,hp⟩:=hpt
  have hlts':ts.length=ps.length:=hlts
  have s12:=s1.trans s2
  have hfw:=N.few
  have hgf:=G.few
  refine ⟨pt,rfl,⟨_,.inl (.inr ⟨o,ept⟩)⟩,fun D hD=>?_⟩
  have hD0:H D=none:=by
   cases e:H D with
   | none=>rfl
   | some o=>rw [s12 _ _ e] at hD;cases hD
  have hzl:(ts.zip ps).length=ts.length:=by rw [JV,hlts',Na]
  have hzs:(ts.zip ps).map (·.2)=ps:=List.map_snd_zip (by omega)
  refine Zix (K:=K) (a:=pt) (xs:=ts.map V.ref) (by rw [length_map];exact Qn (show ts.length<=64 by omega) (by decide))
   (fun i ys H'=>ys=(((ts.zip ps).take i).filter fun z=>!decide (z.2.1=x)).map (fun z=>V.ref z.1)/\H' D=some (.lst ys)/\Same H2 H') ⟨rfl,Zf,Zk hD _⟩ ?_ ?_ ?_
  ·rintro i ys H' ⟨rfl,_,s'⟩
   refine ⟨?_,.inl (.inr ⟨o,s' _ _ ept⟩)⟩
   rw [length_map]
   exact Qn (length_filter_le _ _) (by rw [length_take];exact NW _ _)
  ·rintro i v ys H' hi ⟨rfl,hDl,s'⟩
   have hit:i < ts.length:=by have:=(Qf.mp hi).1;rwa [length_map] at this
   have et:=getElem?_eq_getElem hit
   have ep:=getElem?_eq_getElem (show i < ps.length by omega)
   generalize ts[i]=ti at et
   generalize ps[i]=pi at ep
   have hv:V.ref ti=v:=by rw [getElem?_map,et] at hi;exact QG hi
   subst hv
   have ez:(ts.zip ps)[i]?=some (ti,pi):=getElem?_zip_eq_some.mpr ⟨et,ep⟩
   have htup:=s' _ _ (hp i ti pi et ep)
   have hts:=NB (fun z:Addr×(Str×V)=>!decide (z.2.1=x)) (ts.zip ps) i (ti,pi) ez
   refine ⟨_,rfl,ti,_,_,_,rfl,rfl,SqT.of htup,rfl,_,rfl,rfl,_,rfl,?_⟩
   have edx:(!decide (V.str pi.1=V.str x))=!decide (pi.1=x):=by
    by_cases z:pi.1=x
    ·rw [z,decide_eq_true rfl,decide_eq_true rfl]
    ·rw [decide_eq_false z,decide_eq_false fun y=>z (V.str.inj y)]
   rw [edx]
   by_cases z:pi.1=x
   ·rw [decide_eq_true z]
    refine ZP ⟨?_,hDl,s'⟩
    rw [hts]
    show _=List.map _ (_++if (!decide (pi.1=x))=true then [(ti,pi)] else [])
    rw [decide_eq_true z]
    simp
   ·rw [decide_eq_false z]
    refine Yk ⟨_,rfl,hDl,?_,Zf,fun b u e=>by rw [Zg (Zt e hD)];exact s' _ _ e⟩
    rw [hts]
    show _=List.map _ (_++if (!decide (pi.1=x))=true then [(ti,pi)] else [])
    rw [decide_eq_false z]
    simp
  ·rintro ys H5 ⟨rfl,hD5,s5⟩
   rw [length_map,<- hzl,JL] at hD5
   have hlp:((ts.zip ps).filter fun z=>!decide (z.2.1=x)).map (·.2)=Ww ps x:=by
    unfold Ww
    conv=>rhs;rw [<- hzs]
    rw [List.filter_map];rfl
   have hlt:((ts.zip ps).filter fun z=>!decide (z.2.1=x)).map (fun z=>V.ref z.1)=(((ts.zip ps).filter fun z=>!decide (z.2.1=x)).map (·.1)).map V.ref:=by rw [map_map];rfl
   have s15:Same H H5:=s12.trans s5
   have hPT:PairT H5 (((ts.zip ps).filter fun z=>!decide (z.2.1=x)).map (·.1)) (Ww ps x):=by
    refine ⟨by rw [<- hlp,length_map,length_map],fun i b p e1 e2=>?_⟩
    rw [<- hlp,getElem?_map] at e2
    rw [getElem?_map] at e1
    cases ez:((ts.zip ps).filter fun z=>!decide (z.2.1=x))[i]? with
    | none=>rw [ez] at e1;cases e1
    | some z =>
     rw [ez] at e1 e2
     cases (show some z.1=some b from e1)
     cases (show some z.2=some p from e2)
     obtain ⟨j,hj⟩:=GR.mp (mem_filter.mp (mem_of_getElem? ez)).1
     obtain ⟨h1,h2⟩:=getElem?_zip_eq_some.mp hj
     exact s5 _ _ (hp j _ _ h1 h2)
   refine ⟨_,rfl,_,.inl ⟨_,SqL.of hD5,rfl⟩,?_⟩
   by_cases hb:Ww ps x=[]
   ·have:((ts.zip ps).filter fun z=>!decide (z.2.1=x))=[]:=by
     have:=congrArg TZ hlp
     rw [hb,length_map] at this
     exact length_eq_zero_iff.mp this
    rw [this]
    exact ZP (q H5 nds 0 (S.keep s15) (NEx.refl _) (by omega) (Zjd d h0 hb hF) (LamAt.same hL s15) (Same.kq s15) s15.tf)
   ·have G2:=G.but hb
    have hne:(!(((ts.zip ps).filter fun z=>!decide (z.2.1=x)).map (fun z=>V.ref z.1)).isEmpty)=true:=by
     cases e:((ts.zip ps).filter fun z=>!decide (z.2.1=x)) with
     | nil=>rw [e] at hlp;exact absurd hlp.symm hb
     | cons _ _=>rfl
    rw [hne]
    have S5:=S.keep s15
    obtain ⟨dx5,ob5⟩:=S5.ob
    refine Yk ⟨_,rfl,st,dx5,_,rfl,ob5,ZW ln dt (by decide +kernel) (by decide +kernel),_,rfl,D,_,Ww ps x,rfl,by rw [hD5,hlt],hPT,hb,by have:=G2.few;omega,fun p hp=>N.len _ (G2.sub p hp),LamAt.same hL s15,fun a6 H6 p1 pr g6 L6 perm6 sort6 node6=>?_⟩
    have tb5:H5 Pl=some (.tbl tb):=s15 _ _ htb
    have tf6:TF H5 H6:=g6.tf tb5
    have S6:=S5.kq g6.kq tf6 hst hln hdt
    refine ⟨st,ln,dt,a6,nds,tabs,_,rfl,S6,node6,by omega,fun H7 S7 k7 tf7=>?_⟩
    have nl6:∃ xs,H6 ln=some (.lst xs):=by obtain ⟨as6,e6,_⟩:=S6.nl;exact ⟨_,e6⟩
    have hmk:Zy p1.1=Zy x:=(G2.perm perm6).mrk p1 mem_cons_self
    rw [hmk] at S7
    refine q H7 _ nds.length S7 (NEx.app nds _) (by rw [length_append];show nds.length+1<=_;omega) ?_ (L6.kq k7 fun b hb=>by rw [mem_singleton.mp hb];exact nl6) ?_ ((s15.tf.trans tf6).trans tf7)
    ·exact Zju d hxr (by rw [getElem?_append_right (Qh _),Gc];rfl) G2 perm6 hF
    ·exact (Same.kq s15).trans ((g6.kq.sub fun b hb=>by simp at hb ⊢;exact .inr hb).trans (k7.sub fun b hb=>by simp at hb ⊢;exact .inl hb))
 ·refine ZP ?_
  refine ⟨_,rfl,a,_,rfl,hna.tf s1.tf,fun pt H2 s2 hpt=>⟨pt,_,rfl,.inr hpt,fun rl hrl1=>?_⟩⟩
  have s12:=s1.trans s2
  have hrl0:H rl=none:=by
   cases e:H rl with
   | none=>rfl
   | some o=>rw [s12 _ _ e] at hrl1;cases hrl1
  refine ⟨_,rfl,x,rfl,N.len x hx,fun H3 s3=>⟨_,rfl,Zy x,lev,rfl,N.lo x hx,by omega,?_⟩⟩
  have el3:H3 rl=some (.lst (qs.map iN)):=s3 _ _ Zf
  have s13:Same H H3:=(s12.trans (Zk hrl1 _)).trans s3
  have S3:=S.keep s13
  have hdl:Ya (Zy x) lev < qs.length:=by rw [hq4];exact Ut _ _
  have hq1:=getElem?_eq_getElem hdl
  generalize qs[Ya (Zy x) lev]=q1 at hq1
  have hat:YH (qs.map iN) (Zy x / 4 ^ lev % 4)=some (iN q1):=by rw [<- Wz];exact ZE (by rw [getElem?_map,hq1];rfl)
  obtain ⟨dx3,ob3⟩:=S3.ob
  refine ⟨_,rfl,st,dx3,_,rfl,ob3,ZW ln dt (by decide +kernel) (by decide +kernel),_,rfl,_,rfl,rl,_,_,_,rfl,rfl,SqL.of el3,hat,_,rfl,_,_,rfl,rfl,_,rfl,?_⟩
  refine ⟨st,ln,dt,nds,tabs,q1,lev+1,_,x,v0,Fm,rfl,S3,h0,hqs _ _ hq1,UQ hrl (Ut _ _),by omega,hx,by rw [WW,hxr,XH (N.lo x hx)];rfl,hFx,by omega,LamAt.same hL s13,fun H5 nds5 num5 S5 ext5 len5 tri5 L5 kq5 tf5=>?_⟩
  have nrl:rl ∉ [ln,Pl]:=fun z=>by
   rcases mem_cons.mp z with z | z
   ·rw [z,nl] at hrl0;cases hrl0
   ·rw [mem_singleton.mp z,htb] at hrl0;cases hrl0
  have el5:=kq5 _ _ nrl el3
  have hix:XI (qs.map iN).length (Zy x / 4 ^ lev % 4)=some (Ya (Zy x) lev):=by
   rw [<- Wz,length_map]
   unfold XI
   rw [if_pos (by omega),if_pos (by omega)]
   rfl
  refine ⟨_,rfl,_,rfl,rl,_,_,_,rfl,rfl,el5,hix,?_⟩
  have tf6:=Zee (o:=.lst ((qs.map iN).set (Ya (Zy x) lev) (iN num5))) el5
  have k6:Kq [rl] H5 (upd H5 rl (.lst ((qs.map iN).set (Ya (Zy x) lev) (iN num5)))):=ZaZ
  have nst:st ∉ [rl]:=fun z=>by rw [<- mem_singleton.mp z,ob] at hrl0;cases hrl0
  have nln:ln ∉ [rl]:=fun z=>by rw [<- mem_singleton.mp z,nl] at hrl0;cases hrl0
  have ndt:dt ∉ [rl]:=fun z=>by rw [<- mem_singleton.mp z,S.tb] at hrl0;cases hrl0
  have S6:=S5.kq k6 tf6 nst nln ndt
  have el6:upd H5 rl (.lst ((qs.map iN).set (Ya (Zy x) lev) (iN num5))) rl=some (.lst ((qs.set (Ya (Zy x) lev) num5).map iN)):=by rw [Zf,map_set]
  have L6:=L5.kq k6 fun b hb=>by rw [mem_singleton.mp hb];exact ⟨_,el5⟩
  have kh:Kq [ln,Pl] H (upd H5 rl (.lst ((qs.map iN).set (Ya (Zy x) lev) (iN num5)))):=fun b o nb e=>by
   rw [Zg (Zt e hrl0)];exact kq5 _ _ nb (s13 _ _ e)
  generalize upd H5 rl (.lst ((qs.map iN).set (Ya (Zy x) lev) (iN num5)))=H6 at *
  have hps:∀ (i q:Nat),(qs.set (Ya (Zy x) lev) num5)[i]?=some q->Tri NS nds5 (dnF Fm x) d' (lev+1) (r+i * 4 ^ lev) q:=fun i q hi=>Zhi N hrl hx hxr hq4 hqs ext5 tri5 (fun y hy=>if_neg hy) i q hi
  have hp4:(qs.set (Ya (Zy x) lev) num5).length=4:=by rw [length_set,hq4]
  generalize qs.set (Ya (Zy x) lev) num5=qn at *
  have h05:=ext5 _ _ h0
  have tfh:TF H H6:=(s13.tf.trans tf5).trans tf6
  refine ⟨_,rfl,rl,rfl,⟨_,SqL.of el6⟩,fun D hD=>?_⟩
  refine Zbu (K:=K) (a:=rl) (xs:=qn.map iN) (by rw [length_map,hp4];decide)
   (fun i ys H'=>ys=((qn.take i).filter fun p=>!decide (p=0)).map iN/\H' D=some (.lst ys)/\Same H6 H') ⟨rfl,Zf,Zk hD _⟩ ?_ ?_ ?_
  ·rintro i ys H' ⟨rfl,_,s'⟩
   refine ⟨?_,SqL.of (s' _ _ el6)⟩
   rw [length_map]
   exact Qn (length_filter_le _ _) (by rw [length_take];exact NW _ _)
  ·rintro i v ys H' hi ⟨rfl,hDl,s'⟩
   have hit:i < qn.length:=by have:=(Qf.mp hi).1;rwa [length_map] at this
   have et:=getElem?_eq_getElem hit
   generalize qn[i]=qi at et
   have hv:iN qi=v:=by rw [getElem?_map,et] at hi;exact QG hi
   subst hv
   have hts:=NB (fun p:Nat=>!decide (p=0)) qn i qi et
   refine ⟨_,rfl,rfl,_,rfl,?_⟩
   have edx:(!decide (iN qi=V.int 0))=!decide (qi=0):=by
    by_cases z:qi=0
    ·rw [z];rfl
    ·rw [decide_eq_false z,decide_eq_false fun y=>z (by have:=V.int.inj y;omega)]
   rw [edx]
   by_cases z:qi=0
   ·rw [decide_eq_true z]
    refine ZP ⟨?_,hDl,s'⟩
    rw [hts]
    show _=List.map _ (_++if (!decide (qi=0))=true then [qi] else [])
    rw [decide_eq_true z]
    simp
   ·rw [decide_eq_false z]
    refine Yk ⟨_,rfl,hDl,?_,Zf,fun b u e=>by rw [Zg (Zt e hD)];exact s' _ _ e⟩
    rw [hts]
    show _=List.map _ (_++if (!decide (qi=0))=true then [qi] else [])
    rw [decide_eq_false z]
    simp
  ·rintro ys H7 ⟨rfl,hD7,s7⟩
   rw [length_map,JL] at hD7
   generalize hfl:(qn.filter fun p=>!decide (p=0))=fl at hD7
   have S7:=S6.keep s7
   refine ⟨_,rfl,D,_,rfl,.inl (SqL.of hD7),rfl,_,rfl,?_⟩
   by_cases h1:fl.length=1
   ·obtain ⟨q8,rfl⟩:∃ q8,fl=[q8]:=by
     cases fl with
     | nil=>cases h1
     | cons b t=>cases t with
      | nil=>exact ⟨b,rfl⟩
      | cons _ _=>simp at h1
    obtain ⟨i8,hi8,hq80,_⟩:=Zbb hfl
    obtain ⟨n8,hn8,_⟩:=ZaY (hps i8 q8 hi8)
    obtain ⟨as8,a8,nl8,ha8,hna8⟩:=S7.node hn8
    obtain ⟨dx8,ob8⟩:=S7.ob
    refine Yk ⟨_,rfl,st,C,dx8,_,_,rfl,ob8,TC.cl,TC.nN,XT ln dt,_,rfl,D,_,_,_,rfl,rfl,SqL.of hD7,(show YH ([q8].map iN) ((0:Nat):Int)=some (iN q8) from ZE rfl),ln,_,_,_,rfl,rfl,SqL.of nl8,ZE (by rw [getElem?_map,ha8];rfl),a8,n8,rfl,hna8,fun pt9 H9 s9 hpt9=>?_⟩
    obtain ⟨o9,ts9,ept9,_,hl9,_⟩:=hpt9
    refine ⟨_,.inr (.inl ⟨_,.inl (.inr ⟨o9,ept9⟩),rfl⟩),?_⟩
    have s79:=s7.trans s9
    cases n8 with
    | leaf m8 ps8 =>
     have hne:(!(ts9.map V.ref).isEmpty)=true:=by
      cases ts9 with
      | nil =>
       have hE:TriE NS nds5 (dnF Fm x) (lev+1) (r+i8 * 4 ^ lev) q8:=by
        have:=hps i8 q8 hi8
        cases d' with
        | zero=>exact this
        | succ d' =>
         rcases this with h | ⟨qs',h,_⟩
         ·exact h
         ·rw [hn8] at h;cases h
       rcases hE with ⟨z,_⟩ | ⟨m',ps',e,G,_⟩
       ·exact absurd z hq80
       ·rw [hn8] at e;cases e
        exact absurd (length_eq_zero_iff.mp (show ps8.length=0 from hl9.symm)) G.ne
      | cons _ _=>rfl
     rw [hne]
     refine Yk ⟨_,rfl,D,_,_,_,rfl,rfl,SqL.of (s9 _ _ hD7),(show YH ([q8].map iN) ((0:Nat):Int)=some (iN q8) from ZE rfl),?_⟩
     exact q H9 nds5 q8 (S6.keep s79) ext5 (by omega) (Zns N h05 hrl hp4 hps hfl hn8) (LamAt.same L6 s79) (kh.trans (Same.kq s79)) (tfh.trans s79.tf)
    | bare =>
     rw [length_eq_zero_iff.mp (show ts9.length=0 from hl9)]
     refine ZP ?_
     obtain ⟨dxA,obA⟩:=(S6.keep s79).ob
     refine ⟨_,rfl,st,dxA,_,rfl,obA,ZW ln dt (by decide +kernel) (by decide +kernel),_,rfl,rl,qn,rfl,s79 _ _ el6,hp4,fun aB HB sB nodeB=>?_⟩
     have SB:=(S6.keep s79).keep sB
     refine ⟨st,ln,dt,aB,nds5,tabs,_,rfl,SB,nodeB,by omega,fun HC SC kC tfC=>?_⟩
     have nlB:∃ xs,HB ln=some (.lst xs):=by obtain ⟨asB,eB,_⟩:=SB.nl;exact ⟨_,eB⟩
     refine q HC _ nds5.length SC (ext5.trans (NEx.app nds5 _)) (by rw [length_append];show nds5.length+1<=_;omega) ?_ ((LamAt.same (LamAt.same L6 s79) sB).kq kC fun b hb=>by rw [mem_singleton.mp hb];exact nlB) ?_ (((tfh.trans s79.tf).trans sB.tf).trans tfC)
     ·exact ZaX (by rw [getElem?_append_right (Qh _),Gc];rfl) hp4 fun i q hi=>Tri.mono d' (hps i q hi) (NEx.app nds5 _)
     ·exact ((kh.trans (Same.kq s79)).trans (Same.kq sB)).trans (kC.sub fun b hb=>by simp at hb ⊢;exact .inl hb)
    | fork qs8 =>
     rw [length_eq_zero_iff.mp (show ts9.length=0 from hl9)]
     refine ZP ?_
     obtain ⟨dxA,obA⟩:=(S6.keep s79).ob
     refine ⟨_,rfl,st,dxA,_,rfl,obA,ZW ln dt (by decide +kernel) (by decide +kernel),_,rfl,rl,qn,rfl,s79 _ _ el6,hp4,fun aB HB sB nodeB=>?_⟩
     have SB:=(S6.keep s79).keep sB
     refine ⟨st,ln,dt,aB,nds5,tabs,_,rfl,SB,nodeB,by omega,fun HC SC kC tfC=>?_⟩
     have nlB:∃ xs,HB ln=some (.lst xs):=by obtain ⟨asB,eB,_⟩:=SB.nl;exact ⟨_,eB⟩
     refine q HC _ nds5.length SC (ext5.trans (NEx.app nds5 _)) (by rw [length_append];show nds5.length+1<=_;omega) ?_ ((LamAt.same (LamAt.same L6 s79) sB).kq kC fun b hb=>by rw [mem_singleton.mp hb];exact nlB) ?_ (((tfh.trans s79.tf).trans sB.tf).trans tfC)
     ·exact ZaX (by rw [getElem?_append_right (Qh _),Gc];rfl) hp4 fun i q hi=>Tri.mono d' (hps i q hi) (NEx.app nds5 _)
     ·exact ((kh.trans (Same.kq s79)).trans (Same.kq sB)).trans (kC.sub fun b hb=>by simp at hb ⊢;exact .inl hb)
   ·have hd1:decide (V.int (((fl.map iN).length:Nat):Int)=V.int 1)=false:=decide_eq_false fun z=>h1 (by have:=V.int.inj z;rw [length_map] at this;omega)
    rw [hd1]
    have s79:=s7
    refine ZP (ZP ?_)
    obtain ⟨dxA,obA⟩:=(S6.keep s79).ob
    refine ⟨_,rfl,st,dxA,_,rfl,obA,ZW ln dt (by decide +kernel) (by decide +kernel),_,rfl,rl,qn,rfl,s79 _ _ el6,hp4,fun aB HB sB nodeB=>?_⟩
    have SB:=(S6.keep s79).keep sB
    refine ⟨st,ln,dt,aB,nds5,tabs,_,rfl,SB,nodeB,by omega,fun HC SC kC tfC=>?_⟩
    have nlB:∃ xs,HB ln=some (.lst xs):=by obtain ⟨asB,eB,_⟩:=SB.nl;exact ⟨_,eB⟩
    refine q HC _ nds5.length SC (ext5.trans (NEx.app nds5 _)) (by rw [length_append];show nds5.length+1<=_;omega) ?_ ((LamAt.same (LamAt.same L6 s79) sB).kq kC fun b hb=>by rw [mem_singleton.mp hb];exact nlB) ?_ (((tfh.trans s79.tf).trans sB.tf).trans tfC)
    ·exact ZaX (by rw [getElem?_append_right (Qh _),Gc];rfl) hp4 fun i q hi=>Tri.mono d' (hps i q hi) (NEx.app nds5 _)
    ·exact ((kh.trans (Same.kq s79)).trans (Same.kq sB)).trans (kC.sub fun b hb=>by simp at hb ⊢;exact .inl hb)
theorem Zfn {f:Addr}{fd:Qm}(N:Yq NS)(F:Fun K "taken_from" "Store.taken_from" c_Store_taken_from f fd)(T:Txt K mg)(TC:Xr K C)
 (DH:Def P w K mg base 1 "has_mark" ["node","number"] (VL K)) (DP:Def P w K mg base 1 "parts_in" ["node"] (UW K)) (DR:Def P w K mg base 1 "pairs_in" ["node"] (WB K)) (DM:Def P w K mg base 1 "mark" ["name"] WH) (DG:Def P w K mg base 1 "digit" ["number","level"] Ws)
 (DL:Def P w K mg base 2 "leaf_of" ["pairs"] (Zab K Pl YX)) (DO:Def P w K mg base 1 "fork_of" ["parts"] (Uf K)) (DK:DefM P w K mg base 1 C "keep" ["self","node"] (VQ K C))
 (b:Binds K fd nTk []) (mt:VR K C "taken_from" f):∀ d,FnOk P w K mg base ZC (2+d) f fd nTk (Zbp K C Pl NS d)
 | 0=>F.ok scTk (fun _ _ _ _ h=>h.elim) (fun _ _ _ _ _ _ _ _ _ h=>h.elim)
 | d+1=>ZmI N (Nz 2 d) F T TC DH DP DR DM DG DL DO DK ⟨f,fd,Zfn N F T TC DH DP DR DM DG DL DO DK b mt d,b,mt⟩
def spWo (K:Qa)(C Pl:Addr)(NS:List Str):Sp:=fun vs H Q _=>∃(st ln dt:Addr)(nds:List Nd)(tabs:List (Zn×V))(t:Nat)(x:Str)(F:Str->Option V),vs=[.ref st,iN t,.str x]/\StoreAt K C st ln dt H nds tabs/\nds[0]?=some .bare/\(ZD tabs (QT (t:Int))).isSome=true/\Tri NS nds F 5 0 0 t/\x∈NS/\(∀ u,F x=some u->ValV u)/\nds.length+6<=100000/\tabs.length<=100000/\LamAt H Pl YX Wf /\
 ∀ (H':Hp) (nds':List Nd) (tabs':List (Zn×V)) (t':Nat),StoreAt K C st ln dt H' nds' tabs'->NEx nds nds'->nds'.length<=nds.length+6->tabs'.length<=tabs.length+1->(∀ k,(ZD tabs k).isSome=true->(ZD tabs' k).isSome=true)->(ZD tabs' (QT (t':Int))).isSome=true->Tri NS nds' (dnF F x) 5 0 0 t'->LamAt H' Pl YX Wf->Kq [ln,dt,Pl] H H'->TF H H'->Q (iN t') H'
theorem scWo:Zm ["self","table","name"] ["self","table","name"] (Zj c_Store_without):=⟨rfl,rfl,rfl,by decide +kernel,rfl,by decide +kernel,by decide +kernel⟩
theorem Zox {f:Addr}{fd:Qm}(N:Yq NS)(F:Fun K "without" "Store.without" c_Store_without f fd)(TC:Xr K C)(DLk:DefM P w K mg base 3 C "looked" ["self","table","name"] (WZ K C))
 (DAs:DefM P w K mg base 1 C "as_table" ["self","number"] (Zgq K C)) (DI:DefM P w K mg base 8 C "taken_from" nTk (Zbp K C Pl NS 6)):FnOk P w K mg base ZC 9 f fd ["self","table","name"] (spWo K C Pl NS):=by
 refine F.ok scWo (fun vs H Q E h=>?_) (fun cdv A outer s H vs Q E hr h=>?_)
 ·obtain ⟨st,ln,dt,nds,tabs,t,x,F,rfl,_⟩:=h;rfl
 obtain ⟨st,ln,dt,nds,tabs,t,x,Fm,rfl,S,h0,htab,htri,hx,hFv,hlen,htl,hL,q⟩:=h
 have hr1:=hr.mono (show 1<=8 by decide)
 have hr3:=hr.mono (show 3<=8 by decide)
 refine' ⟨?t,?h,?r⟩
 case h =>
  conv=>arg 2;whnf
  with_reducible refine' Ze (ZZ ?a1 (Zh ?a2) ZM) (Zh ?a3)
  case a1=>exact Xa (Wh (ZH DLk TC.cl hr3 (pv 0) (Zb (pv 1) (Zb (pv 2) Za))))
  case a2=>exact Zq (pv 1)
  case a3=>exact Zq (ZH DAs TC.cl hr1 (pv 0) (Zb (ZH DI TC.cl hr (pv 0) (Zb (pv 1) (Zb Zi (Zb (pv 2) Za)))) Za))
 obtain ⟨dx,ob⟩:=S.ob
 obtain ⟨ws,e,n,e1,e2,e3,e4,e5⟩:=Vn N htri hx
 refine ⟨_,rfl,st,dx,_,rfl,ob,ZW ln dt (by decide +kernel) (by decide +kernel),_,rfl,_,rfl,st,ln,dt,nds,tabs,t,x,6,ws,e,n,rfl,S,htab,N.len x hx,N.lo x hx,by decide,e1,e2,e3,e4,fun H1 s1=>?_⟩
 rw [e5]
 refine ⟨_,rfl,?_⟩
 have S1:=S.keep s1
 have hL1:=LamAt.same hL s1
 cases eF:Fm x with
 | none =>
  refine Yk ⟨_,rfl,q H1 nds tabs t S1 (NEx.refl _) (by omega) (by omega) (fun _ h=>h) htab (Tri.congr 5 (by decide) htri fun y _ _=>?_) hL1 (Same.kq s1) s1.tf⟩
  unfold dnF
  by_cases z:y=x
  ·rw [if_pos z,z,eF]
  ·rw [if_neg z]
 | some u =>
  have hc:decide ((some u).getD .non=V.non)=false:=decide_eq_false (hFv u eF).ne
  rw [hc]
  obtain ⟨dx1,ob1⟩:=S1.ob
  refine ZP ⟨_,rfl,st,dx1,_,rfl,ob1,ZW ln dt (by decide +kernel) (by decide +kernel),_,rfl,st,dx1,_,rfl,ob1,ZW ln dt (by decide +kernel) (by decide +kernel),_,rfl,_,rfl,?_⟩
  refine ⟨st,ln,dt,nds,tabs,t,0,0,x,u,Fm,rfl,S1,h0,htri,by decide,rfl,hx,by rw [Nc,NM],eF,hlen,hL1,fun H2 nds2 num2 S2 ext2 len2 tri2 L2' kq2 tf2=>?_⟩
  refine ⟨st,ln,dt,nds2,tabs,num2,rfl,S2,by omega,fun H3 S3 k3 tf3=>?_⟩
  refine q H3 nds2 _ num2 S3 ext2 len2 (XQ _ _ _) (fun k hk=>?_) (by rw [Uv,if_pos rfl];rfl) tri2 ?_ ?_ ((s1.tf.trans tf2).trans tf3)
  ·rw [Uv]
   by_cases z:k=QT (num2:Int)
   ·rw [if_pos z];rfl
   ·rw [if_neg z];exact hk
  ·have hdl:∀ b∈[dt],∃ xs,H2 b=some (.dK xs):=fun b hb=>by rw [mem_singleton.mp hb];exact ⟨_,S2.tb⟩
   rcases L2' with h | ⟨c,h,h2⟩
   ·exact .inl (k3 _ _ (fun z=>by obtain ⟨_,e⟩:=hdl _ z;rw [h] at e;cases e) h)
   ·exact .inr ⟨c,k3 _ _ (fun z=>by obtain ⟨_,e⟩:=hdl _ z;rw [h] at e;cases e) h,k3 _ _ (fun z=>by obtain ⟨_,e⟩:=hdl _ z;rw [h2] at e;cases e) h2⟩
  ·exact ((Same.kq s1).trans (kq2.sub fun b hb=>by simp at hb ⊢;rcases hb with z | z;exact .inl z;exact .inr (.inr z))).trans (k3.sub fun b hb=>by simp at hb ⊢;exact .inr (.inl hb))
end
section
variable {P:Qk}{w:Qv}{K:Qa}{mg:Str->Option Qb}{base:Heap}{C Pl:Addr}{NS:List Str}
abbrev YJ:Yw:=Zjw YX Wf
def Zep (K:Qa)(C Pl:Addr):Sp:=fun vs H Q _=>∃(NS:List Str)(st:Addr)(nds:List Nd)(tabs:List (Zn×V))(t:Nat)(x:Str)(v:V)(F:Str->Option V)(Δ:Rs),Yq NS/\vs=[.ref st,iN t,.str x,v]/\Sep ((st,Uq K C nds tabs)::(Pl,YJ)::Δ) H/\(ZD tabs (QT (t:Int))).isSome=true/\Tri NS nds F 5 0 0 t/\x∈NS/\ValV v/\(∀ u,F x=some u->ValV u)/\nds.length+6<=100000/\tabs.length<=100000 /\
 ∀ (H':Hp) (nds':List Nd) (tabs':List (Zn×V)) (t':Nat),Sep ((st,Uq K C nds' tabs')::(Pl,YJ)::Δ) H'->NEx nds nds'->nds'.length<=nds.length+6->tabs'.length<=tabs.length+1->(∀ k,(ZD tabs k).isSome=true->(ZD tabs' k).isSome=true)->(ZD tabs' (QT (t':Int))).isSome=true->Tri NS nds' (upF F x v) 5 0 0 t'->Q (iN t') H'
def ZfW (K:Qa)(C Pl:Addr):Sp:=fun vs H Q _=>∃(NS:List Str)(st:Addr)(nds:List Nd)(tabs:List (Zn×V))(t:Nat)(x:Str)(F:Str->Option V)(Δ:Rs),Yq NS/\vs=[.ref st,iN t,.str x]/\Sep ((st,Uq K C nds tabs)::(Pl,YJ)::Δ) H/\(ZD tabs (QT (t:Int))).isSome=true/\Tri NS nds F 5 0 0 t/\x∈NS/\(∀ u,F x=some u->ValV u)/\nds.length+6<=100000/\tabs.length<=100000 /\
 ∀ (H':Hp) (nds':List Nd) (tabs':List (Zn×V)) (t':Nat),Sep ((st,Uq K C nds' tabs')::(Pl,YJ)::Δ) H'->NEx nds nds'->nds'.length<=nds.length+6->tabs'.length<=tabs.length+1->(∀ k,(ZD tabs k).isSome=true->(ZD tabs' k).isSome=true)->(ZD tabs' (QT (t':Int))).isSome=true->Tri NS nds' (dnF F x) 5 0 0 t'->Q (iN t') H'
theorem Zpz {f:Addr}{fd:Qm}{k:Nat}{ps:List Str}(h:∀ NS,Yq NS->FnOk P w K mg base ZC k f fd ps (ZkD K C Pl NS)):FnOk P w K mg base ZC k f fd ps (Zep K C Pl) :=
 (FnOk.ex h).conv fun vs H Q E ⟨NS,st,nds,tabs,t,x,v,F,Δ,N,e,S,h1,h2,h3,h4,h5,h6,h7,q⟩=>by
  obtain ⟨ln,dt,SA,b0,L,back⟩:=S.stoLam
  exact ⟨NS,N,st,ln,dt,nds,tabs,t,x,v,F,e,SA,b0,h1,h2,h3,h4,h5,h6,h7,L,fun H' nds' tabs' t' S' ext len tl mono tok WM L' kq tf=>q H' nds' tabs' t' (back H' nds' tabs' S' (ext _ _ b0) L' kq) ext len tl mono tok WM⟩
theorem wo_S {f:Addr}{fd:Qm}{k:Nat}{ps:List Str}(h:∀ NS,Yq NS->FnOk P w K mg base ZC k f fd ps (spWo K C Pl NS)):FnOk P w K mg base ZC k f fd ps (ZfW K C Pl) :=
 (FnOk.ex h).conv fun vs H Q E ⟨NS,st,nds,tabs,t,x,F,Δ,N,e,S,h1,h2,h3,h4,h5,h6,q⟩=>by
  obtain ⟨ln,dt,SA,b0,L,back⟩:=S.stoLam
  exact ⟨NS,N,st,ln,dt,nds,tabs,t,x,F,e,SA,b0,h1,h2,h3,h4,h5,h6,L,fun H' nds' tabs' t' S' ext len tl mono tok WM L' kq tf=>q H' nds' tabs' t' (back H' nds' tabs' S' (ext _ _ b0) L' kq) ext len tl mono tok WM⟩
def Zcj (K:Qa)(C:Addr):Sp:=fun vs H Q _=>∃(p dx:Addr)(H0:Hp)(Δ:Rs),vs=[.ref p]/\H=upd (upd H0 dx (.own p)) p (.ins C dx [])/\H0 p=none/\H0 dx=none/\dx≠p/\Sep Δ H0/\∀ H',Same H0 H'->Sep ((p,Uq K C [.bare] [(QT 0,.bl true)])::Δ) H'->Q .non H'
theorem Zmw {vs:List V}{H:Hp}{Q:VK}{E:XK}(h:Zcj K C vs H Q E):Zia K C vs H Q E:=by
 obtain ⟨p,dx,H0,Δ,e,rfl,h1,h2,h3,S,q⟩:=h
 refine ⟨p,dx,e,Zf,fun ln dt H' hln hdt SA kq=>?_⟩
 have sH:Same H0 (upd (upd H0 dx (.own p)) p (.ins C dx [])):=(Zk h2 _).trans (Zk (by rw [Zg h3.symm];exact h1) _)
 have s0:Same H0 H':=fun b o e=>kq b o (by simp only [mem_singleton];exact Zt e h1) (sH b o e)
 refine q H' s0 ?_
 have n1:=ZcB sH hln
 have n2:=ZcB sH hdt
 obtain ⟨dx',ob⟩:=SA.ob
 obtain ⟨as,nl,nlen,nod⟩:=SA.nl
 refine ⟨some_of H' [p,ln,dt],WV,⟨rfl,ln,dt,⟨⟨dx',by rw [Wd (by simp)];exact ob⟩,⟨as,by rw [Wd (by simp)];exact nl,nlen,fun i a n e1 e2=>(nod i a n e1 e2).tf Zfh⟩,by rw [Wd (by simp)];exact SA.tb⟩⟩,S.mono fun b o e=>cut_some.mpr ⟨s0 _ _ e,fun u z=>?_⟩⟩
 cases m:YR u with
 | false=>rfl
 | true =>
  have:=WA z m
  simp only [mem_cons,SE,or_false] at this
  rcases this with z | z | z
  ·exact absurd z (Zt e h1)
  ·exact absurd z (Zt e n1)
  ·exact absurd z (Zt e n2)
def Zie (K:Qa)(C:Addr):Sp:=fun vs H Q _=>∃(st:Addr)(nds:List Nd)(tabs:List (Zn×V)),vs=[.ref st]/\Uq K C nds tabs st H/\Q (.int (nds.length:Int)) H
theorem scMd:Zm ["self"] ["self"] (Zj c_Store_made):=⟨rfl,rfl,rfl,by decide +kernel,rfl,by decide +kernel,by decide +kernel⟩
theorem ZlQ {f:Addr}{fd:Qm}(F:Fun K "made" "Store.made" c_Store_made f fd)(T:Txt K mg)(TC:Xr K C):FnOk P w K mg base ZC 1 f fd ["self"] (Zie K C):=by
 refine F.ok scMd (fun vs H Q E h=>?_) (fun cdv A outer s H vs Q E hr h=>?_)
 ·obtain ⟨st,nds,tabs,rfl,_⟩:=h;rfl
 obtain ⟨st,nds,tabs,rfl,⟨b0,ln,dt,⟨⟨dx,ob⟩,⟨as,nl,hl,hn⟩,tb⟩⟩,q⟩:=h
 refine ⟨_,Zh (Zq (Zr ZO rfl T.len QM (Zb (Zu (pv 0) rfl) Za))),?_⟩
 refine ⟨_,rfl,st,C,dx,_,_,rfl,ob,TC.cl,TC.nN,XT ln dt,ln,_,rfl,.inl (SqL.of nl),?_⟩
 rw [length_map,hl];exact q
def Zfj (K:Qa)(C:Addr):Sp:=fun vs H Q _=>∃ v,vs=[v]/\Q (.int 0) H
theorem scEm:Zm ["self"] ["self"] (Zj c_Store_empty):=⟨rfl,rfl,rfl,by decide +kernel,rfl,by decide +kernel,by decide +kernel⟩
theorem Zjg {f:Addr}{fd:Qm}(F:Fun K "empty" "Store.empty" c_Store_empty f fd)(T:Txt K mg):FnOk P w K mg base ZC 1 f fd ["self"] (Zfj K C):=by
 refine F.ok scEm (fun vs H Q E h=>?_) (fun cdv A outer s H vs Q E hr h=>?_)
 ·obtain ⟨v,rfl,_⟩:=h;rfl
 obtain ⟨v,rfl,q⟩:=h
 obtain ⟨tz,hz⟩:=T.zero
 exact ⟨_,Zh (Zq (ZR rfl hz (v:=.int 0) ⟨_,rfl⟩)),q⟩
end
structure Wg (K:Qa)(CR:Addr):Prop where
 cl:Cls K CR
 nk:NoAttr K CR "kept"
 na:NoAttr K CR "aheads"
 ns:NoAttr K CR "steps"
 nt:NoAttr K CR "tables"
 nc:NoAttr K CR "costs"
section
variable {P:Qk}{w:Qv}{K:Qa}{mg:Str->Option Qb}{base:Heap}{CR CS Pl:Addr}{NS:List Str}
theorem ZbW {st la ls lt lc:Addr}:(UR st la ls lt lc).lookup ("kept":Str)=some (V.ref st):=rfl
theorem Zcf {st la ls lt lc:Addr}:(UR st la ls lt lc).lookup ("aheads":Str)=some (V.ref la):=rfl
theorem ZgX {st la ls lt lc:Addr}:(UR st la ls lt lc).lookup ("steps":Str)=some (V.ref ls):=rfl
theorem Zjm {st la ls lt lc:Addr}:(UR st la ls lt lc).lookup ("tables":Str)=some (V.ref lt):=rfl
theorem rf_c {st la ls lt lc:Addr}:(UR st la ls lt lc).lookup ("costs":Str)=some (V.ref lc):=rfl
theorem XA {st la ls lt lc:Addr}{m:Str}(h:[("kept":Str),"aheads","steps","tables","costs"].all (fun k=>!(m == k))=true):(UR st la ls lt lc).lookup m=none:=by
 simp only [Os,Nf,Ot,QL,JA] at h
 obtain ⟨h1,h2,h3,h4,h5⟩:=h
 simp [UR,GB,h1,h2,h3,h4,h5]
abbrev RdR (K:Qa)(CR CS:Addr)(r:Addr)(pls:List Yn)(nds:List Nd)(tabs:List (Zn×V))(H:Hp):Prop:=Va K CR CS pls nds tabs r H
def Zdw (K:Qa)(CR CS:Addr):Sp:=fun vs H Q _=>∃(r:Addr)(pls:List Yn)(nds:List Nd)(tabs:List (Zn×V))(k:Nat),vs=[.ref r,.int (k:Int)]/\RdR K CR CS r pls nds tabs H/\k<=pls.length/\Q .non H
abbrev nRCk:List Str:=["self","place"]
abbrev Zby:List Str:=["self","place"]
theorem Zpq:Zm nRCk Zby (Zj c_Roads_check_place):=⟨rfl,rfl,rfl,by decide +kernel,rfl,by decide +kernel,by decide +kernel⟩
theorem ZlX {f:Addr}{fd:Qm}(F:Fun K "check_place" "Roads.check_place" c_Roads_check_place f fd)(T:ZY mg)(TR:Wg K CR):FnOk P w K mg base ZC 1 f fd Zby (Zdw K CR CS):=by
 refine F.ok Zpq (fun vs H Q E h=>?_) (fun cdv A outer s H vs Q E hr h=>?_)
 ·obtain ⟨r,pls,nds,tabs,k,rfl,_⟩:=h;rfl
 obtain ⟨r,pls,nds,tabs,k,rfl,⟨st,la,ls,lt,lc,S⟩,hk,q⟩:=h
 obtain ⟨dx,ob⟩:=S.get r
 refine' ⟨?t,?h,?r⟩
 case h =>
  conv=>arg 2;whnf
  with_reducible refine' (Zh (ZZ ?h1 (Zh Vl) ZM))
  case h1=>exact Wn (ZaA ZgU Zbk Zi (pv 1) (Zr ZO rfl T.len QM (Zb (Zu (pv 0) rfl) Za)))
 try dsimp only [ZQ,Cx.nox]
 refine ⟨_,rfl,_,_,rfl,rfl,_,rfl,?_⟩
 rw [decide_eq_true (show (0:Int)<=(k:Int) by omega)]
 refine Yk ⟨_,rfl,r,CR,dx,_,_,rfl,ob,TR.cl,TR.na,Zcf,la,_,rfl,.inl (SqL.of (S.get la)),_,_,rfl,rfl,_,rfl,?_⟩
 rw [decide_eq_true (show (k:Int) < (((V.non::pls.map fun q=>V.int (q.ah:Int)).length:Nat):Int) by rw [length_cons,length_map];omega)]
 exact ZP q
def ahV (pls:List Yn):Nat->V
 | 0=>.non
 | k+1=>.int (((pls.getD k ⟨0,.clr "",0,0⟩).ah:Nat):Int)
theorem Zml {pls:List Yn}{k:Nat}(h:k<=pls.length):(V.non::pls.map fun q=>V.int (q.ah:Int))[k]?=some (ahV pls k):=by
 cases k with
 | zero=>rfl
 | succ k =>
  rw [Ji,getElem?_map,getElem?_eq_getElem (show k < pls.length by omega)]
  show some _=some (V.int _)
  rw [getD_eq_getElem?_getD,getElem?_eq_getElem (show k < pls.length by omega)]
  rfl
def ZfI (K:Qa)(CR CS:Addr):Sp:=fun vs H Q _=>∃(r:Addr)(pls:List Yn)(nds:List Nd)(tabs:List (Zn×V))(k:Nat),vs=[.ref r,.int (k:Int)]/\RdR K CR CS r pls nds tabs H/\k<=pls.length/\Q (ahV pls k) H
abbrev nRAh:List Str:=["self","place"]
abbrev ZgY:List Str:=["self","place"]
theorem ZoA:Zm nRAh ZgY (Zj c_Roads_ahead):=⟨rfl,rfl,rfl,by decide +kernel,rfl,by decide +kernel,by decide +kernel⟩
theorem Zjc {f:Addr}{fd:Qm}(F:Fun K "ahead" "Roads.ahead" c_Roads_ahead f fd)(T:ZY mg)(TR:Wg K CR)(DR_check_place:DefM P w K mg base 1 CR "check_place" Zby (Zdw K CR CS)):FnOk P w K mg base ZC 2 f fd ZgY (ZfI K CR CS):=by
 refine F.ok ZoA (fun vs H Q E h=>?_) (fun cdv A outer s H vs Q E hr h=>?_)
 ·obtain ⟨r,pls,nds,tabs,k,rfl,_⟩:=h;rfl
 obtain ⟨r,pls,nds,tabs,k,rfl,R,hk,q⟩:=h
 obtain ⟨st,la,ls,lt,lc,S⟩:=id R
 obtain ⟨dx,ob⟩:=S.get r
 refine' ⟨?t,?h,?r⟩
 case h =>
  conv=>arg 2;whnf
  with_reducible refine' (Ze ?h1 (Zh ?h2))
  case h1=>exact ZU (ZH DR_check_place TR.cl hr (pv 0) (Zb (pv 1) Za))
  case h2=>exact Zq (Zz ZB (Zu (pv 0) rfl) (pv 1) (fun _ _=>rfl))
 try dsimp only [ZQ,Cx.nox]
 refine zs2 ?_
 intro zD zS zN1
 refine ⟨_,rfl,r,dx,_,rfl,ob,XA (by decide +kernel),_,rfl,r,pls,nds,tabs,k,rfl,R,hk,?_⟩
 exact ⟨_,rfl,r,CR,dx,_,_,rfl,ob,TR.cl,TR.na,Zcf,_,rfl,la,_,_,_,rfl,rfl,SqL.of (S.get la),ZE (Zml hk),q⟩
end
def WfP (pls:List Yn):Prop:=∀(k:Nat)(q:Yn),pls[k]?=some q->q.ah<=k
section
variable {P:Qk}{w:Qv}{K:Qa}{mg:Str->Option Qb}{base:Heap}{CR CS Pl:Addr}{NS:List Str}
def StV (pls:List Yn)(k:Nat)(v:V)(H:Hp):Prop:=match k with
 | 0=>v=.non
 | k+1=>∃ a s,v=.ref a/\(pls.map (·.st))[k]?=some s/\H a=some (.tup s.vs)
def Zfo (K:Qa)(CR CS:Addr):Sp:=fun vs H Q _=>∃(r:Addr)(pls:List Yn)(nds:List Nd)(tabs:List (Zn×V))(k:Nat),vs=[.ref r,.int (k:Int)]/\RdR K CR CS r pls nds tabs H/\k<=pls.length/\∀ v,StV pls k v H->Q v H
abbrev nRSt:List Str:=["self","place"]
abbrev Zgd:List Str:=["self","place"]
theorem ZoC:Zm nRSt Zgd (Zj c_Roads_step):=⟨rfl,rfl,rfl,by decide +kernel,rfl,by decide +kernel,by decide +kernel⟩
theorem ZjG {f:Addr}{fd:Qm}(F:Fun K "step" "Roads.step" c_Roads_step f fd)(T:ZY mg)(TR:Wg K CR)(DR_check_place:DefM P w K mg base 1 CR "check_place" Zby (Zdw K CR CS)):FnOk P w K mg base ZC 2 f fd Zgd (Zfo K CR CS):=by
 refine F.ok ZoC (fun vs H Q E h=>?_) (fun cdv A outer s H vs Q E hr h=>?_)
 ·obtain ⟨r,pls,nds,tabs,k,rfl,_⟩:=h;rfl
 obtain ⟨r,pls,nds,tabs,k,rfl,R,hk,q⟩:=h
 obtain ⟨st,la,ls,lt,lc,S⟩:=id R
 obtain ⟨dx,ob⟩:=S.get r
 obtain ⟨as,els,hal,hst⟩:=S.get ls
 refine' ⟨?t,?h,?r⟩
 case h =>
  conv=>arg 2;whnf
  with_reducible refine' (Ze ?h1 (Zh ?h2))
  case h1=>exact ZU (ZH DR_check_place TR.cl hr (pv 0) (Zb (pv 1) Za))
  case h2=>exact Zq (Zz ZB (Zu (pv 0) rfl) (pv 1) (fun _ _=>rfl))
 try dsimp only [ZQ,Cx.nox]
 refine zs2 ?_
 intro zD zS zN1
 refine ⟨_,rfl,r,dx,_,rfl,ob,XA (by decide +kernel),_,rfl,r,pls,nds,tabs,k,rfl,R,hk,?_⟩
 rw [length_map] at hal
 cases k with
 | zero=>exact ⟨_,rfl,r,CR,dx,_,_,rfl,ob,TR.cl,TR.ns,ZgX,_,rfl,ls,_,_,_,rfl,rfl,SqL.of els,ZE rfl,q _ rfl⟩
 | succ k =>
  have ha:=getElem?_eq_getElem (show k < as.length by omega)
  have hs:(pls.map (·.st))[k]?=some pls[k].st:=by rw [getElem?_map,getElem?_eq_getElem (show k < pls.length by omega)];rfl
  exact ⟨_,rfl,r,CR,dx,_,_,rfl,ob,TR.cl,TR.ns,ZgX,_,rfl,ls,_,_,_,rfl,rfl,SqL.of els,ZE (show (V.non::as.map V.ref)[k+1]?=some (.ref as[k]) by rw [Ji,getElem?_map,ha];rfl),q _ ⟨_,_,rfl,hs,hst k _ _ ha hs⟩⟩
def tbN (pls:List Yn):Nat->Nat
 | 0=>0
 | k+1=>(pls.getD k ⟨0,.clr "",0,0⟩).tb
theorem WK {pls:List Yn}{k:Nat}(h:k<=pls.length):(0::pls.map (·.tb))[k]?=some (tbN pls k):=by
 cases k with
 | zero=>rfl
 | succ k =>
  rw [Ji,getElem?_map,getElem?_eq_getElem (show k < pls.length by omega)]
  show some _=some (pls.getD k ⟨0,.clr "",0,0⟩).tb
  rw [getD_eq_getElem?_getD,getElem?_eq_getElem (show k < pls.length by omega)]
  rfl
theorem Zol {pls:List Yn}{k:Nat}(h:k<=pls.length):(V.int 0::pls.map fun q=>V.int (q.tb:Int))[k]?=some (.int (tbN pls k:Int)):=by
 have e:(V.int 0::pls.map fun q=>V.int (q.tb:Int))=(0::pls.map (·.tb)).map fun n:Nat=>V.int (n:Int):=by rw [map_cons,map_map];rfl
 rw [e,getElem?_map,WK h];rfl
def Zcm (K:Qa)(CR CS:Addr):Sp:=fun vs H Q _=>∃(r:Addr)(pls:List Yn)(nds:List Nd)(tabs:List (Zn×V))(k:Nat),vs=[.ref r,.int (k:Int)]/\RdR K CR CS r pls nds tabs H/\k<=pls.length/\Q (.int (tbN pls k:Int)) H
abbrev nRTa:List Str:=["self","place"]
abbrev Zdz:List Str:=["self","place"]
theorem Zpm:Zm nRTa Zdz (Zj c_Roads_table):=⟨rfl,rfl,rfl,by decide +kernel,rfl,by decide +kernel,by decide +kernel⟩
theorem Zja {f:Addr}{fd:Qm}(F:Fun K "table" "Roads.table" c_Roads_table f fd)(T:ZY mg)(TR:Wg K CR)(DR_check_place:DefM P w K mg base 1 CR "check_place" Zby (Zdw K CR CS)):FnOk P w K mg base ZC 2 f fd Zdz (Zcm K CR CS):=by
 refine F.ok Zpm (fun vs H Q E h=>?_) (fun cdv A outer s H vs Q E hr h=>?_)
 ·obtain ⟨r,pls,nds,tabs,k,rfl,_⟩:=h;rfl
 obtain ⟨r,pls,nds,tabs,k,rfl,R,hk,q⟩:=h
 obtain ⟨st,la,ls,lt,lc,S⟩:=id R
 obtain ⟨dx,ob⟩:=S.get r
 refine' ⟨?t,?h,?r⟩
 case h =>
  conv=>arg 2;whnf
  with_reducible refine' (Ze ?h1 (Zh ?h2))
  case h1=>exact ZU (ZH DR_check_place TR.cl hr (pv 0) (Zb (pv 1) Za))
  case h2=>exact Zq (Zz ZB (Zu (pv 0) rfl) (pv 1) (fun _ _=>rfl))
 try dsimp only [ZQ,Cx.nox]
 refine zs2 ?_
 intro zD zS zN1
 refine ⟨_,rfl,r,dx,_,rfl,ob,XA (by decide +kernel),_,rfl,r,pls,nds,tabs,k,rfl,R,hk,?_⟩
 exact ⟨_,rfl,r,CR,dx,_,_,rfl,ob,TR.cl,TR.nt,Zjm,_,rfl,lt,_,_,_,rfl,rfl,SqL.of (S.get lt),ZE (Zol hk),q⟩
end
structure RInv (NS:List Str)(pls:List Yn)(nds:List Nd)(tabs:List (Zn×V)):Prop where
 wf:WfP pls
 tr:∀ (k:Nat) (F:Str->Option V) (t:Nat),(envs pls)[k]?=some F->(0::pls.map (·.tb))[k]?=some t->(ZD tabs (QT (t:Int))).isSome=true/\Tri NS nds F 5 0 0 t/\∀ x u,F x=some u->IsVal u
theorem Zcy {v:V}(h:IsVal v):ValV v:=by
 cases v<;>first | trivial | exact h.elim
theorem RInv.app {NS:List Str}{pls:List Yn}{nds nds':List Nd}{tabs tabs':List (Zn×V)}(I:RInv NS pls nds tabs){q:Yn}{F:Str->Option V}(hk:q.ah<=pls.length)(hF:(envs pls)[q.ah]?=some F)(ext:NEx nds nds')
 (mono:∀ k,(ZD tabs k).isSome=true->(ZD tabs' k).isSome=true) (ht:(ZD tabs' (QT (q.tb:Int))).isSome=true) (WM:Tri NS nds' (q.st.ap F) 5 0 0 q.tb) (hv:∀ x v,q.st=.set x v->IsVal v):RInv NS (pls++[q]) nds' tabs':=by
 have hfv:=(I.tr q.ah F _ hF (WK hk)).2.2
 refine ⟨fun k p e=>?_,fun k G t e1 e2=>?_⟩
 ·by_cases h:k < pls.length
  ·rw [getElem?_append_left h] at e;exact I.wf k p e
  ·rw [getElem?_append_right (by omega)] at e
   have:k - pls.length=0:=by
    cases z:k - pls.length with
    | zero=>rfl
    | succ j=>rw [z] at e;simp at e
   rw [this] at e
   cases (show some q=some p from e)
   omega
 ·rw [ZaQ] at e1
  by_cases h:k < (envs pls).length
  ·rw [getElem?_append_left h] at e1
   have e2':(0::pls.map (·.tb))[k]?=some t:=by
    rw [map_append,<- Ss,getElem?_append_left (by rw [length_cons,length_map];rw [Uj] at h;exact h)] at e2
    exact e2
   obtain ⟨g1,g2,g3⟩:=I.tr k G t e1 e2'
   exact ⟨mono _ g1,Tri.mono 5 g2 ext,g3⟩
  ·rw [getElem?_append_right (by omega)] at e1
   have hz:k - (envs pls).length=0:=by
    cases z:k - (envs pls).length with
    | zero=>rfl
    | succ j=>rw [z] at e1;simp at e1
   rw [hz] at e1
   have e1':q.st.ap ((envs pls).getD q.ah fun _=>none)=G:=QG e1
   rw [getD_eq_getElem?_getD,hF] at e1'
   have ek:k=pls.length+1:=by rw [Uj] at h hz;omega
   have e2':q.tb=t:=by
    rw [ek,Ji,map_append,getElem?_append_right (by rw [length_map];omega),length_map,Gc] at e2
    exact QG e2
   subst e1' e2'
   refine ⟨ht,WM,fun x u hu=>?_⟩
   have hu:q.st.ap F x=some u:=hu
   cases es:q.st with
   | set y v =>
    rw [es] at hu
    have hu:(if x=y then some v else F x)=some u:=hu
    by_cases z:x=y
    ·rw [if_pos z] at hu;cases hu;exact hv y _ es
    ·rw [if_neg z] at hu;exact hfv x u hu
   | clr y =>
    rw [es] at hu
    have hu:(if x=y then none else F x)=some u:=hu
    by_cases z:x=y
    ·rw [if_pos z] at hu;cases hu
    ·rw [if_neg z] at hu;exact hfv x u hu
section
variable {P:Qk}{w:Qv}{K:Qa}{mg:Str->Option Qb}{base:Heap}{CR CS Pl:Addr}
def ZiP (K:Qa)(CR CS Pl:Addr):Sp:=fun vs H Q _=>∃(NS:List Str)(r sa:Addr)(pls:List Yn)(nds:List Nd)(tabs:List (Zn×V))(k:Nat)(s:Stp)(Δ:Rs),vs=[.ref r,.int (k:Int),.ref sa]/\Yq NS/\Sep ((r,Va K CR CS pls nds tabs)::(Pl,YJ)::Δ) H/\H sa=some (.tup s.vs)/\RInv NS pls nds tabs/\s.ok NS/\k<=pls.length/\pls.length<=10000/\nds.length<=90000/\tabs.length<=90000 /\
 ∀ (H':Hp) (nds':List Nd) (tabs':List (Zn×V)) (t':Nat),Sep ((r,Va K CR CS (pls++[⟨k,s,t',nds'.length - nds.length⟩]) nds' tabs')::(Pl,YJ)::Δ) H'->RInv NS (pls++[⟨k,s,t',nds'.length - nds.length⟩]) nds' tabs'->NEx nds nds'->nds'.length<=nds.length+6->tabs'.length<=tabs.length+1->Q (.int ((pls.length+1:Nat):Int)) H'
theorem NEx.len {nds nds':List Nd}(h:NEx nds nds'):nds.length<=nds'.length:=by
 cases e:nds.length with
 | zero=>omega
 | succ n =>
  have hl:n < nds.length:=by omega
  have:=(Qf.mp (h n _ (getElem?_eq_getElem hl))).1
  omega
abbrev nRGo:List Str:=["self","place","step","table","made_ahead"]
abbrev Zdf:List Str:=["self","place","step"]
theorem scRGo:Zm nRGo Zdf (Zj c_Roads_go_on):=⟨rfl,rfl,rfl,by decide +kernel,rfl,by decide +kernel,by decide +kernel⟩
theorem ZkQ {f:Addr}{fd:Qm}(F:Fun K "go_on" "Roads.go_on" c_Roads_go_on f fd)(T:ZY mg)(TR:Wg K CR)(TC:Xr K CS)(DR_table:DefM P w K mg base 9 CR "table" Zdz (Zcm K CR CS))(DS_made:DefM P w K mg base 9 CS "made" ["self"] (Zie K CS))
 (DS_put:DefM P w K mg base 9 CS "put" ["self","table","name","value"] (Zep K CS Pl)) (DS_without:DefM P w K mg base 9 CS "without" ["self","table","name"] (ZfW K CS Pl)):FnOk P w K mg base ZC 10 f fd Zdf (ZiP K CR CS Pl):=by
 refine F.ok scRGo (fun vs H Q E h=>?_) (fun cdv A outer s H vs Q E hr h=>?_)
 ·obtain ⟨NS,r,sa,pls,nds,tabs,k,s,Δ,rfl,_⟩:=h;rfl
 obtain ⟨NS,r,sa,pls,nds,tabs,k,s,Δ,rfl,N,S0,es,I,hs,hk,hpl,hnd,htb,q⟩:=h
 obtain ⟨st,la,ls,lt,lc,S⟩:=S0.roaO
 obtain ⟨dx,ob⟩:=S.get r
 obtain ⟨b0,ln,dt,SA⟩:=S.get st
 obtain ⟨dxs,obs⟩:=SA.ob
 obtain ⟨Fk,hFk⟩:∃ Fk,(envs pls)[k]?=some Fk:=⟨_,getElem?_eq_getElem (by rw [Uj];omega)⟩
 obtain ⟨g1,g2,g3⟩:=I.tr k Fk _ hFk (WK hk)
 refine' ⟨?t,?h,?r⟩
 case h =>
  conv=>arg 2;whnf
  with_reducible refine' (Ze ?h1 (Ze ?h2 (Ze (ZZ ?h3 (Zh ?h4) (Zh ?h5)) (Ze ?h6 (Ze ?h7 (Ze ?h8 (Ze ?h9 (Zh ?h10))))))))
  case h1=>exact Zv (i:=3) scRGo.nd rfl (Qz rfl) (ZH DR_table TR.cl hr (pv 0) (Zb (pv 1) Za))
  case h2=>exact Zv (i:=4) scRGo.nd rfl (Qz rfl) (WT DS_made TC.cl hr (Zu (pv 0) rfl))
  case h3=>exact ZL Yx (Zz YF (pv 2) Zi (fun _ _=>rfl)) ZS (ZJ _)
  case h4=>exact Zv (i:=3) scRGo.nd rfl (Qz rfl) (ZH DS_put TC.cl hr (Zu (pv 0) rfl) (Zb (pv 3) (Zb (Zz YF (pv 2) Zi (fun _ _=>rfl)) (Zb (Zz YF (pv 2) Zi (fun _ _=>rfl)) Za))))
  case h5=>exact Zv (i:=3) scRGo.nd rfl (Qz rfl) (ZH DS_without TC.cl hr (Zu (pv 0) rfl) (Zb (pv 3) (Zb (Zz YF (pv 2) Zi (fun _ _=>rfl)) Za)))
  case h6=>exact ZU (YS QB QJ QK Ys (Zu (pv 0) rfl) (Zb (pv 1) Za))
  case h7=>exact ZU (YS QB QJ QK Ys (Zu (pv 0) rfl) (Zb (pv 2) Za))
  case h8=>exact ZU (YS QB QJ QK Ys (Zu (pv 0) rfl) (Zb (pv 3) Za))
  case h9=>exact ZU (YS QB QJ QK Ys (Zu (pv 0) rfl) (Zb (Zx Xt (WT DS_made TC.cl hr (Zu (pv 0) rfl)) (pv 4)) Za))
  case h10=>exact Zq (Zx Xt (Zr ZO rfl T.len QM (Zb (Zu (pv 0) rfl) Za)) Zi)
 try dsimp only [ZQ,Cx.nox]
 refine zs8 ?_
 intro zD zS zN7 zN6 zN5 zN4 zN3 zN2 zN1
 refine ⟨_,rfl,r,dx,_,rfl,ob,XA (by decide +kernel),_,rfl,r,pls,nds,tabs,k,rfl,S0.get r,hk,?_⟩
 refine ⟨_,rfl,r,CR,dx,_,_,rfl,ob,TR.cl,TR.nk,ZbW,st,dxs,_,rfl,obs,ZW ln dt (by decide +kernel) (by decide +kernel),st,nds,tabs,rfl,S.get st,?_⟩
 have S1:=((S.imm es rfl).pull Pl).pull st
 cases s with
 | set x v =>
  obtain ⟨hx,hv⟩:=hs
  refine ⟨_,rfl,sa,_,_,_,rfl,rfl,SqT.of es,ZE (j:=0) rfl,rfl,_,rfl,?_⟩
  rw [decide_eq_true rfl]
  refine Yk ⟨_,rfl,r,CR,dx,_,_,rfl,ob,TR.cl,TR.nk,ZbW,st,dxs,_,rfl,obs,ZW ln dt (by decide +kernel) (by decide +kernel),_,rfl,_,rfl,sa,_,_,_,rfl,rfl,SqT.of es,ZE (j:=1) rfl,_,rfl,sa,_,_,_,rfl,rfl,SqT.of es,ZE (j:=2) rfl,?_⟩
  refine ⟨NS,st,nds,tabs,tbN pls k,x,v,Fk,_,N,rfl,S1,g1,g2,hx,Zcy hv,fun u hu=>Zcy (g3 x u hu),by omega,by omega,fun H2 nds2 tabs2 t2 S2 ext2 len2 tl2 mono2 ht2 tri2=>?_⟩
  have I2:=RInv.app (q:=⟨k,.set x v,t2,nds2.length - nds.length⟩) I hk hFk ext2 mono2 ht2 tri2 (fun y u e=>by cases e;exact hv)
  revert S2 I2
  generalize Stp.set x v=s at *
  intro S2 I2
  obtain ⟨dx2,ob2⟩:=S2.get r
  refine ⟨_,rfl,r,CR,dx2,_,_,rfl,ob2,TR.cl,TR.na,Zcf,.inl ⟨rfl,_,SqL.of (S2.get la)⟩,_,rfl,la,_,_,rfl,rfl,S2.get la,YG (show _<=20000 by rw [length_cons,length_map];omega),?_⟩
  generalize hE:upd H2 la _=H3
  have S3:=S2.putE hE
  clear hE
  obtain ⟨dx3,ob3⟩:=S3.get r
  obtain ⟨as3,els,hal,_⟩:=S3.get ls
  rw [length_map] at hal
  refine ⟨_,rfl,r,CR,dx3,_,_,rfl,ob3,TR.cl,TR.ns,ZgX,.inl ⟨rfl,_,SqL.of els⟩,_,rfl,ls,_,_,rfl,rfl,els,YG (show _<=20000 by rw [length_cons,length_map];omega),?_⟩
  generalize hE:upd H3 ls _=H4
  have S4:=hE ▸ S3.stepApp ls els (S3.get sa)
  clear hE
  obtain ⟨dx4,ob4⟩:=S4.get r
  refine ⟨_,rfl,r,CR,dx4,_,_,rfl,ob4,TR.cl,TR.nt,Zjm,.inl ⟨rfl,_,SqL.of (S4.get lt)⟩,_,rfl,lt,_,_,rfl,rfl,S4.get lt,YG (show _<=20000 by rw [length_cons,length_map];omega),?_⟩
  generalize hE:upd H4 lt _=H5
  have S5:=S4.putE hE
  clear hE
  obtain ⟨dx5,ob5⟩:=S5.get r
  obtain ⟨_,ln5,dt5,SA5⟩:=S5.get st
  obtain ⟨dxs5,obs5⟩:=SA5.ob
  refine ⟨_,rfl,r,CR,dx5,_,_,rfl,ob5,TR.cl,TR.nc,rf_c,.inl ⟨rfl,_,SqL.of (S5.get lc)⟩,_,rfl,r,CR,dx5,_,_,rfl,ob5,TR.cl,TR.nk,ZbW,st,dxs5,_,rfl,obs5,ZW ln5 dt5 (by decide +kernel) (by decide +kernel),st,nds2,tabs2,rfl,S5.get st,_,rfl,_,_,rfl,rfl,lc,_,_,rfl,rfl,S5.get lc,YG (show _<=20000 by rw [length_cons,length_map];omega),?_⟩
  generalize hE:upd H5 lc _=H6
  have S6:=S5.putE hE
  clear hE
  obtain ⟨dx6,ob6⟩:=S6.get r
  refine ⟨_,rfl,r,CR,dx6,_,_,rfl,ob6,TR.cl,TR.na,Zcf,la,_,rfl,.inl (SqL.of (S6.get la)),_,_,rfl,rfl,?_⟩
  have hle:=ext2.len
  have ec:V.int ((nds2.length:Int) - (nds.length:Int))=V.int ((nds2.length - nds.length:Nat):Int):=congrArg V.int (by omega)
  have S7:=(((((((S6.drop sa).pull Pl).pull lc).pull lt).pull ls).pull la).pull st).pull r
  have S8:Sep ((r,Xq CR (UR st la ls lt lc))::(st,Uq K CS nds2 tabs2)::(la,Yj (V.non::(pls++[(⟨k,s,t2,nds2.length - nds.length⟩:Yn)]).map fun q=>V.int (q.ah:Int)))::(ls,Vi ((pls++[(⟨k,s,t2,nds2.length - nds.length⟩:Yn)]).map (·.st)))::(lt,Yj (V.int 0::(pls++[(⟨k,s,t2,nds2.length - nds.length⟩:Yn)]).map fun q=>V.int (q.tb:Int)))::(lc,Yj (V.int 0::(pls++[(⟨k,s,t2,nds2.length - nds.length⟩:Yn)]).map fun q=>V.int (q.co:Int)))::(Pl,YJ)::Δ) H6:=by
   rw [map_append,map_append,map_append,map_append]
   show Sep (_::_::_::_::_::(lc,Yj (V.int 0::(pls.map (fun q=>V.int (q.co:Int))++[V.int ((nds2.length - nds.length:Nat):Int)])))::_) _
   rw [<- ec]
   exact S7
  have e9:(((V.non::pls.map fun q=>V.int (q.ah:Int))++[V.int (k:Int)]).length:Int) - 1=((pls.length+1:Nat):Int):=by rw [length_append,length_cons,length_map];show ((pls.length+1+1:Nat):Int) - 1=_;omega
  have:=q H6 nds2 tabs2 t2 S8.roaC I2 ext2 len2 tl2
  rw [<- e9] at this
  exact this
 | clr x =>
  refine ⟨_,rfl,sa,_,_,_,rfl,rfl,SqT.of es,ZE (j:=0) rfl,rfl,_,rfl,?_⟩
  rw [show decide (V.str "clear"=V.str (QA "set"))=false by decide +kernel]
  refine ZP ⟨_,rfl,r,CR,dx,_,_,rfl,ob,TR.cl,TR.nk,ZbW,st,dxs,_,rfl,obs,ZW ln dt (by decide +kernel) (by decide +kernel),_,rfl,_,rfl,sa,_,_,_,rfl,rfl,SqT.of es,ZE (j:=1) rfl,?_⟩
  refine ⟨NS,st,nds,tabs,tbN pls k,x,Fk,_,N,rfl,S1,g1,g2,hs,fun u hu=>Zcy (g3 x u hu),by omega,by omega,fun H2 nds2 tabs2 t2 S2 ext2 len2 tl2 mono2 ht2 tri2=>?_⟩
  have I2:=RInv.app (q:=⟨k,.clr x,t2,nds2.length - nds.length⟩) I hk hFk ext2 mono2 ht2 tri2 (fun y u e=>by cases e)
  revert S2 I2
  generalize Stp.clr x=s at *
  intro S2 I2
  obtain ⟨dx2,ob2⟩:=S2.get r
  refine ⟨_,rfl,r,CR,dx2,_,_,rfl,ob2,TR.cl,TR.na,Zcf,.inl ⟨rfl,_,SqL.of (S2.get la)⟩,_,rfl,la,_,_,rfl,rfl,S2.get la,YG (show _<=20000 by rw [length_cons,length_map];omega),?_⟩
  generalize hE:upd H2 la _=H3
  have S3:=S2.putE hE
  clear hE
  obtain ⟨dx3,ob3⟩:=S3.get r
  obtain ⟨as3,els,hal,_⟩:=S3.get ls
  rw [length_map] at hal
  refine ⟨_,rfl,r,CR,dx3,_,_,rfl,ob3,TR.cl,TR.ns,ZgX,.inl ⟨rfl,_,SqL.of els⟩,_,rfl,ls,_,_,rfl,rfl,els,YG (show _<=20000 by rw [length_cons,length_map];omega),?_⟩
  generalize hE:upd H3 ls _=H4
  have S4:=hE ▸ S3.stepApp ls els (S3.get sa)
  clear hE
  obtain ⟨dx4,ob4⟩:=S4.get r
  refine ⟨_,rfl,r,CR,dx4,_,_,rfl,ob4,TR.cl,TR.nt,Zjm,.inl ⟨rfl,_,SqL.of (S4.get lt)⟩,_,rfl,lt,_,_,rfl,rfl,S4.get lt,YG (show _<=20000 by rw [length_cons,length_map];omega),?_⟩
  generalize hE:upd H4 lt _=H5
  have S5:=S4.putE hE
  clear hE
  obtain ⟨dx5,ob5⟩:=S5.get r
  obtain ⟨_,ln5,dt5,SA5⟩:=S5.get st
  obtain ⟨dxs5,obs5⟩:=SA5.ob
  refine ⟨_,rfl,r,CR,dx5,_,_,rfl,ob5,TR.cl,TR.nc,rf_c,.inl ⟨rfl,_,SqL.of (S5.get lc)⟩,_,rfl,r,CR,dx5,_,_,rfl,ob5,TR.cl,TR.nk,ZbW,st,dxs5,_,rfl,obs5,ZW ln5 dt5 (by decide +kernel) (by decide +kernel),st,nds2,tabs2,rfl,S5.get st,_,rfl,_,_,rfl,rfl,lc,_,_,rfl,rfl,S5.get lc,YG (show _<=20000 by rw [length_cons,length_map];omega),?_⟩
  generalize hE:upd H5 lc _=H6
  have S6:=S5.putE hE
  clear hE
  obtain ⟨dx6,ob6⟩:=S6.get r
  refine ⟨_,rfl,r,CR,dx6,_,_,rfl,ob6,TR.cl,TR.na,Zcf,la,_,rfl,.inl (SqL.of (S6.get la)),_,_,rfl,rfl,?_⟩
  have hle:=ext2.len
  have ec:V.int ((nds2.length:Int) - (nds.length:Int))=V.int ((nds2.length - nds.length:Nat):Int):=congrArg V.int (by omega)
  have S7:=(((((((S6.drop sa).pull Pl).pull lc).pull lt).pull ls).pull la).pull st).pull r
  have S8:Sep ((r,Xq CR (UR st la ls lt lc))::(st,Uq K CS nds2 tabs2)::(la,Yj (V.non::(pls++[(⟨k,s,t2,nds2.length - nds.length⟩:Yn)]).map fun q=>V.int (q.ah:Int)))::(ls,Vi ((pls++[(⟨k,s,t2,nds2.length - nds.length⟩:Yn)]).map (·.st)))::(lt,Yj (V.int 0::(pls++[(⟨k,s,t2,nds2.length - nds.length⟩:Yn)]).map fun q=>V.int (q.tb:Int)))::(lc,Yj (V.int 0::(pls++[(⟨k,s,t2,nds2.length - nds.length⟩:Yn)]).map fun q=>V.int (q.co:Int)))::(Pl,YJ)::Δ) H6:=by
   rw [map_append,map_append,map_append,map_append]
   show Sep (_::_::_::_::_::(lc,Yj (V.int 0::(pls.map (fun q=>V.int (q.co:Int))++[V.int ((nds2.length - nds.length:Nat):Int)])))::_) _
   rw [<- ec]
   exact S7
  have e9:(((V.non::pls.map fun q=>V.int (q.ah:Int))++[V.int (k:Int)]).length:Int) - 1=((pls.length+1:Nat):Int):=by rw [length_append,length_cons,length_map];show ((pls.length+1+1:Nat):Int) - 1=_;omega
  have:=q H6 nds2 tabs2 t2 S8.roaC I2 ext2 len2 tl2
  rw [<- e9] at this
  exact this
end
section
variable {P:Qk}{w:Qv}{K:Qa}{mg:Str->Option Qb}{base:Heap}{CR CS Pl:Addr}
def GoP (K:Qa)(CR CS Pl:Addr)(NS:List Str)(r:Addr)(pls:List Yn)(nds:List Nd)(tabs:List (Zn×V))(k:Nat)(s:Stp)(Δ:Rs)(H:Hp)(Q:VK):Prop :=
 Yq NS/\Sep ((r,Va K CR CS pls nds tabs)::(Pl,YJ)::Δ) H/\RInv NS pls nds tabs/\s.ok NS/\k<=pls.length/\pls.length<=10000/\nds.length<=90000/\tabs.length<=90000 /\
 ∀ (H':Hp) (nds':List Nd) (tabs':List (Zn×V)) (t':Nat),Sep ((r,Va K CR CS (pls++[⟨k,s,t',nds'.length - nds.length⟩]) nds' tabs')::(Pl,YJ)::Δ) H'->RInv NS (pls++[⟨k,s,t',nds'.length - nds.length⟩]) nds' tabs'->nds'.length<=nds.length+6->tabs'.length<=tabs.length+1->Q (.int ((pls.length+1:Nat):Int)) H'
def ZdR (K:Qa)(CR CS Pl:Addr):Sp:=fun vs H Q _=>∃(NS:List Str)(r:Addr)(pls:List Yn)(nds:List Nd)(tabs:List (Zn×V))(k:Nat)(x:Str)(v:V)(Δ:Rs),vs=[.ref r,.int (k:Int),.str x,v]/\GoP K CR CS Pl NS r pls nds tabs k (.set x v) Δ H Q
def ZhQ (K:Qa)(CR CS Pl:Addr):Sp:=fun vs H Q _=>∃(NS:List Str)(r:Addr)(pls:List Yn)(nds:List Nd)(tabs:List (Zn×V))(k:Nat)(x:Str)(Δ:Rs),vs=[.ref r,.int (k:Int),.str x]/\GoP K CR CS Pl NS r pls nds tabs k (.clr x) Δ H Q
abbrev nRPu:List Str:=["self","place","name","value"]
abbrev Zds:List Str:=["self","place","name","value"]
theorem ZpG:Zm nRPu Zds (Zj c_Roads_put):=⟨rfl,rfl,rfl,by decide +kernel,rfl,by decide +kernel,by decide +kernel⟩
theorem ZkG {f:Addr}{fd:Qm}(F:Fun K "put" "Roads.put" c_Roads_put f fd)(T:ZY mg)(TR:Wg K CR)(DR_go_on:DefM P w K mg base 10 CR "go_on" Zdf (ZiP K CR CS Pl)):FnOk P w K mg base ZC 11 f fd Zds (ZdR K CR CS Pl):=by
 refine F.ok ZpG (fun vs H Q E h=>?_) (fun cdv A outer s H vs Q E hr h=>?_)
 ·obtain ⟨NS,r,pls,nds,tabs,k,x,v,Δ,rfl,_⟩:=h;rfl
 obtain ⟨NS,r,pls,nds,tabs,k,x,v,Δ,rfl,N,S0,I,hs,hk,h1,h2,h3,q⟩:=h
 obtain ⟨st,la,ls,lt,lc,SR⟩:=S0.get r
 obtain ⟨dx,ob⟩:=SR.get r
 refine' ⟨?t,?h,?r⟩
 case h =>
  conv=>arg 2;whnf
  with_reducible refine' (Zh ?h1)
  case h1=>exact Zq (ZH DR_go_on TR.cl hr (pv 0) (Zb (pv 1) (Zb (Yi (Zb ZS (Zb (pv 2) (Zb (pv 3) Za)))) Za)))
 try dsimp only [ZQ,Cx.nox]
 refine ⟨_,rfl,r,dx,_,rfl,ob,XA (by decide +kernel),_,rfl,_,rfl,_,rfl,(by show 3<=Qi;decide),fun t ht=>?_⟩
 exact ⟨NS,r,t,pls,nds,tabs,k,.set x v,Δ,rfl,N,(S0.new ht _).drop t,Zf,I,hs,hk,h1,h2,h3,fun H' nds' tabs' t' S' I' _ l1 l2=>q H' nds' tabs' t' S' I' l1 l2⟩
abbrev nRCl:List Str:=["self","place","name"]
abbrev Zgi:List Str:=["self","place","name"]
theorem ZoV:Zm nRCl Zgi (Zj c_Roads_clear):=⟨rfl,rfl,rfl,by decide +kernel,rfl,by decide +kernel,by decide +kernel⟩
theorem ZkY {f:Addr}{fd:Qm}(F:Fun K "clear" "Roads.clear" c_Roads_clear f fd)(T:ZY mg)(TR:Wg K CR)(DR_go_on:DefM P w K mg base 10 CR "go_on" Zdf (ZiP K CR CS Pl)):FnOk P w K mg base ZC 11 f fd Zgi (ZhQ K CR CS Pl):=by
 refine F.ok ZoV (fun vs H Q E h=>?_) (fun cdv A outer s H vs Q E hr h=>?_)
 ·obtain ⟨NS,r,pls,nds,tabs,k,x,Δ,rfl,_⟩:=h;rfl
 obtain ⟨NS,r,pls,nds,tabs,k,x,Δ,rfl,N,S0,I,hs,hk,h1,h2,h3,q⟩:=h
 obtain ⟨st,la,ls,lt,lc,SR⟩:=S0.get r
 obtain ⟨dx,ob⟩:=SR.get r
 refine' ⟨?t,?h,?r⟩
 case h =>
  conv=>arg 2;whnf
  with_reducible refine' (Zh ?h1)
  case h1=>exact Zq (ZH DR_go_on TR.cl hr (pv 0) (Zb (pv 1) (Zb (Yi (Zb ZS (Zb (pv 2) Za))) Za)))
 try dsimp only [ZQ,Cx.nox]
 refine ⟨_,rfl,r,dx,_,rfl,ob,XA (by decide +kernel),_,rfl,_,rfl,(by show 2<=Qi;decide),fun t ht=>?_⟩
 exact ⟨NS,r,t,pls,nds,tabs,k,.clr x,Δ,rfl,N,(S0.new ht _).drop t,Zf,I,hs,hk,h1,h2,h3,fun H' nds' tabs' t' S' I' _ l1 l2=>q H' nds' tabs' t' S' I' l1 l2⟩
def Zfr (K:Qa)(CR CS:Addr):Sp:=fun vs H Q _=>∃(r dx:Addr)(H0:Hp)(Δ:Rs),vs=[.ref r]/\H=upd (upd H0 dx (.own r)) r (.ins CR dx [])/\H0 r=none/\H0 dx=none/\dx≠r/\Sep Δ H0/\∀ H',Sep ((r,Va K CR CS [] [.bare] [(QT 0,.bl true)])::Δ) H'->Q .non H'
abbrev nRIn:List Str:=["self"]
abbrev Zkv:List Str:=["self"]
theorem Zpd:Zm nRIn Zkv (Zj c_Roads___init__):=⟨rfl,rfl,rfl,by decide +kernel,rfl,by decide +kernel,by decide +kernel⟩
theorem ZiY {f:Addr}{fd:Qm}(F:Fun K "__init__" "Roads.__init__" c_Roads___init__ f fd)(T:ZY mg)(TR:Wg K CR)(TC:Xr K CS)(DSto:Zcs P w K mg base 1 CS "Store" ["self"] (Zcj K CS))(DS_empty:DefM P w K mg base 2 CS "empty" ["self"] (Zfj K CS)):FnOk P w K mg base ZC 3 f fd Zkv (Zfr K CR CS):=by
 refine F.ok Zpd (fun vs H Q E h=>?_) (fun cdv A outer s H vs Q E hr h=>?_)
 ·obtain ⟨r,dx,H0,Δ,rfl,_⟩:=h;rfl
 obtain ⟨r,dx,H0,Δ,rfl,rfl,h1,h2,h3,S0,q⟩:=h
 have S:=((S0.new h2 (.own r)).new (p:=r) (by rw [Zg h3.symm];exact h1) (.ins CR dx [])).drop dx
 generalize upd (upd H0 dx (.own r)) r (.ins CR dx [])=H at *
 refine' ⟨?t,?h,?r⟩
 case h =>
  conv=>arg 2;whnf
  with_reducible refine' (Ze ?h1 (Ze ?h2 (Ze ?h3 (Ze ?h4 (Zh ?h5)))))
  case h1=>exact YW (pv 0) (Zdr DSto hr) rfl
  case h2=>exact YW (pv 0) (ZX (Zb XX Za)) rfl
  case h3=>exact YW (pv 0) (ZX (Zb XX Za)) rfl
  case h4=>exact YW (pv 0) (ZX (Zb (WT DS_empty TC.cl hr (Zu (pv 0) rfl)) Za)) rfl
  case h5=>exact YW (pv 0) (ZX (Zb Zi Za)) rfl
 try dsimp only [ZQ,Cx.nox]
 refine zs5 ?_
 intro zD zS zN4 zN3 zN2 zN1
 intro st dx2 hst hdx2 hne
 refine ⟨st,dx2,_,_,rfl,rfl,hst,hdx2,hne,S,fun H1 _ S1=>⟨rfl,?_⟩⟩
 refine ⟨_,rfl,r,CR,dx,_,rfl,S1.get r,TR.cl,TR.nk,(by show 0 < 1000;decide),?_⟩
 generalize hE:upd H1 r _=H2
 have S2:=S1.putE hE
 clear hE
 refine ⟨(by show 1<=Qi;decide),fun la hla=>?_⟩
 generalize hE:upd H2 la _=H3
 have S3:=S2.newE hla hE
 clear hE
 refine ⟨_,rfl,r,CR,dx,_,rfl,S3.get r,TR.cl,TR.na,(by show 1 < 1000;decide),?_⟩
 generalize hE:upd H3 r _=H4
 have S4:=S3.putE hE
 clear hE
 refine ⟨(by show 1<=Qi;decide),fun ls hls=>?_⟩
 generalize hE:upd H4 ls _=H5
 have S5:=S4.newE hls hE
 clear hE
 refine ⟨_,rfl,r,CR,dx,_,rfl,S5.get r,TR.cl,TR.ns,(by show 2 < 1000;decide),?_⟩
 generalize hE:upd H5 r _=H6
 have S6:=S5.putE hE
 clear hE
 obtain ⟨b0,ln,dt,SA⟩:=S6.get st
 obtain ⟨dxs,obs⟩:=SA.ob
 refine ⟨_,rfl,r,CR,dx,_,_,rfl,S6.get r,TR.cl,TR.nk,rfl,st,dxs,_,rfl,obs,ZW ln dt (by decide +kernel) (by decide +kernel),_,rfl,(by show 1<=Qi;decide),fun lt hlt=>?_⟩
 generalize hE:upd H6 lt _=H7
 have S7:=S6.newE hlt hE
 clear hE
 refine ⟨_,rfl,r,CR,dx,_,rfl,S7.get r,TR.cl,TR.nt,(by show 3 < 1000;decide),?_⟩
 generalize hE:upd H7 r _=H8
 have S8:=S7.putE hE
 clear hE
 refine ⟨(by show 1<=Qi;decide),fun lc hlc=>?_⟩
 generalize hE:upd H8 lc _=H9
 have S9:=S8.newE hlc hE
 clear hE
 refine ⟨_,rfl,r,CR,dx,_,rfl,S9.get r,TR.cl,TR.nc,(by show 4 < 1000;decide),?_⟩
 generalize hE:upd H9 r _=H10
 have S10:=S9.putE hE
 clear hE
 have S11:=S10.say ls (Vi []) fun h z=>⟨[],z,rfl,fun i a s e=>by simp at e⟩
 have S12:=S11.say r (Xq CR (UR st la ls lt lc)) fun h z=>⟨dx,z⟩
 have S13:=(((((S12.pull lc).pull lt).pull ls).pull la).pull st).pull r
 exact q _ (Sep.roaC (pls:=[]) S13)
end
end K36
namespace L2
open PySem PySem.Spec PyProof.Rows
abbrev vMro:List Value:=[.type "ValueError",.type "Exception",.type "BaseException",.type "object"]
inductive VT:List Qb->Prop
 | base:VT vMro
 | own {a:Addr} {r:List Qb}:VT r->VT (.ref a::r)
def ZgR:List Qb->Bool
 | .ref _::r=>ZgR r
 | l=>decide (l=vMro)
theorem VT.of:∀{l:List Qb},ZgR l=true->VT l
 | [],h=>nomatch (of_decide_eq_true h:([]:List Qb)=vMro)
 | v::r,h=>by cases v<;>first | exact .own (VT.of h) | (have e:=of_decide_eq_true h;rw [e];exact .base)
theorem VT.has {l:List Qb}(T:VT l){x:String}{b:Bool}(hb:vMro.contains (.type x)=b):l.contains (.type x)=b:=by
 induction T with
 | base=>exact hb
 | own _ ih=>rw [contains_cons,ih];rfl
theorem VT.refuse {l:List Qb}(T:VT l)(self:Qb):refuseLoop self "__setattr__" l=pure ():=by
 induction T with
 | base=>exact JT.passes self
 | own _ ih=>rw [refuseLoop_ref];exact ih
def ZeA (K:Qa)(C:Addr):Bool:=match K.lookup C with
 | some ⟨.type "type",_,.cls cd,sl⟩=>(match cd.mro,sl.toList with
  | .ref C'::bm,[_,_,_,_,some (.builtin n),_]=>C' == C&&!cd.hasDel&&cd.hasDict&&n == "ValueError.__new__"&&ZgR bm
  | _,_=>false)
 | _=>false
theorem Zag {K:Qa}{h:Heap}{C:Addr}(X:K.In h)(q:ZeA K C=true):∃ nm qn N bs bm sn sub ab col dd k0 k1 k2 k3 k5,
 h.get? C=some (GZ nm qn C N bs bm true sn sub ab col dd k0 k1 k2 k3 k5 "ValueError.__new__")/\VT bm:=by
 unfold ZeA at q
 split at q
 ·rename_i dd cd sl ho
  split at q
  ·rename_i C' bm k0 k1 k2 k3 n k5 hm hs
   simp only [QL,beq_iff_eq,JA] at q
   obtain ⟨⟨⟨⟨rfl,hdel⟩,hdi⟩,rfl⟩,ht⟩:=q
   obtain ⟨nm,bs,mro,ns,qn,hd,sn,sub,ab,col,del⟩:=cd
   dsimp only at hm hdel hdi
   subst hm hdel hdi
   have hsl:sl=#[k0,k1,k2,k3,some (.builtin "ValueError.__new__"),k5]:=by
    obtain ⟨l⟩:=sl
    simp only at hs
    rw [hs]
   subst hsl
   exact ⟨nm,qn,ns,bs,bm,sn,sub,ab,col,dd,k0,k1,k2,k3,k5,X _ _ ho,.of ht⟩
  ·cases q
 ·cases q
section
variable {prog:Qk}{w:Qv}{A:QF}{E:Qb->Qe->Prop}{h:Heap}{g:Array OL}{d:Drawn}{t:Nat}{os:OsState}
variable {nm q:Str}{C N:Addr}{bs bm:List Qb}{sn:List Str}{sub:List Qb}{ab:Bool}{col:Option Bool}{dd:Option Addr}{k0 k1 k2 k3 k5:Option Qb}
theorem ZeQ {M:Oh}(T:VT bm){rest:List Qb}{Q:Unit->Qe->Prop}(hC:h.get? C=some (GZ nm q C N bs bm true sn sub ab col dd k0 k1 k2 k3 k5 "ValueError.__new__"))
 (hq:Q () ⟨h,g,d,t,os⟩):Qq M A (Gx "ValueError.__new__" ⟨.ref C::rest,[]⟩) Q E ⟨h,g,d,t,os⟩:=by
 have F:=GQ
 have hcont:(Qo C::bm).contains (.type "ValueError")=true:=by rw [contains_cons,T.has F.hasB,SZ]
 have hstar:=F.noStar
 simp only [Gx,F.newKind,F.newSplit,F.newRow]
 repeat (first | refine QI hC ?_ | (refine Gs hC ?_;rw [hcont]) | refine wpAny_staticBase_exc hC ?_ | refine NC hC ?_ | simp only [bne_self_eq_false,GP,if_false] | wp_step)
 exact hq
theorem ZpA {R:Oz->Qe->Prop}(T:VT bm){rest:List Qb}(hC:h.get? C=some (GZ nm q C N bs bm true sn sub ab col dd k0 k1 k2 k3 k5 "ValueError.__new__"))
 (hq:R (.ok (.ret (.ref (h.objs.size+1)))) ⟨(h.push { cls:=.type "tuple",data:=.seq rest.toArray }).push
  {cls:=.ref C,data:=.fields #[.ref h.objs.size,.none,.none,.none,.bool false,.none] },g,d,t,os⟩) (hrest:rest.length<=Qi) :
 JU (Qt prog w) A (.builtin "ValueError.__new__" ⟨.ref C::rest,[]⟩) R ⟨h,g,d,t,os⟩:=by
 have F:=GQ
 have hends:=F.ends
 have hcB:(Qo C::bm).contains (.type "ValueError")=true:=by rw [contains_cons,T.has F.hasB,SZ]
 have hcA:(Qo C::bm).contains (.type "AttributeError")=false:=by rw [contains_cons,T.has F.noAttr];rfl
 have hcN:(Qo C::bm).contains (.type "NameError")=false:=by rw [contains_cons,T.has F.noName];rfl
 refine codeAny_builtinAt F.entry ?_
 unfold Jy.«BaseException.__new__»
 refine NX ?_
 show PySem.wpAt _ _ _ (stack >>= _) _ _ _
 refine NX (PySem.wpAt_stack fun p below=>Od ?_)
 wp_walk
 refine Od ?_
 rw [F.owner]
 repeat (first | with_reducible refine wpAny_madeHere_exc F.canon hC ?_ | with_reducible refine QI hC ?_ | (with_reducible refine Gs hC ?_;first | rw [hcB] | rw [hcA] | rw [hcN]) | wp_step)
 show R _ _
 rw [JE]
 exact hq
theorem ZeP (T:VT bm){rest:List Qb}{fI:Addr}{oI:Obj}{Q:Fin->Qe->Prop}
   (hC:h.get? C=some (GZ nm q C N bs bm true sn sub ab col dd k0 k1 k2 k3 k5 "ValueError.__new__")) (LI:GK (Qt prog w) h (QY (.ref C) "__init__") (some (.ref fI)))
   (hfI:h.get? fI=some oI) (hfc:oI.cls=.type "function")
   (hq:∀ h' e,Heap.MadeExcOf h h' e (.ref C) rest->h.objs.size<=e ->
     Qq (Qt prog w) A (call (.ref fI) (.ref e::rest)) (fun r s'=>r=.none/\Q (.done (.ret (.ref e))) s') E ⟨h',g,d,t,os⟩) (hrest:rest.length<=Qi) :
   Qq (Qt prog w) A (Jy.«type.__call__» ⟨.ref C::rest,[]⟩) Q E ⟨h,g,d,t,os⟩:=by
 have F:=GQ
 repeat (first | with_reducible refine QI hC ?_ | with_reducible refine NC hC ?_ | wp_step)
 refine codeAny_call_builtin_code (JY _ F.quiet) (ZeQ T hC ?_)
 refine ZpA T hC ?_ hrest
 show Qq _ _ _ _ _ _
 have hC₁:=Qd { cls:=.ref C,data:=.fields #[.ref h.objs.size,.none,.none,.none,.bool false,.none] }
   (Qd { cls:=.type "tuple",data:=.seq rest.toArray } hC)
 have hfI₁:=Qd { cls:=.ref C,data:=.fields #[.ref h.objs.size,.none,.none,.none,.bool false,.none] }
   (Qd { cls:=.type "tuple",data:=.seq rest.toArray } hfI)
 have hget:((h.push { cls:=.type "tuple",data:=.seq rest.toArray }).push
     { cls:=.ref C,data:=.fields #[.ref h.objs.size,.none,.none,.none,.bool false,.none] }).get? (h.objs.size+1)=some
     { cls:=.ref C,data:=.fields #[.ref h.objs.size,.none,.none,.none,.bool false,.none] }:=by heap_get
 have hcC:(Qo C::bm).contains (.ref C)=true:=by simp
 unfold isInstance
 repeat (first | with_reducible refine QI hget ?_ | (with_reducible refine Gs hC₁ ?_;rw [hcC]) | wp_step)
 show Qq _ _ (QY (.ref C) _) _ _ _
 refine (LI.keeps (h':=(h.push { cls:=.type "tuple",data:=.seq rest.toArray }).push { cls:=.ref C,data:=.fields #[.ref h.objs.size,.none,.none,.none,.bool false,.none] }) fun b o e=>Qd _ (Qd _ e)) _ _ _ _ (fun _ _ e=>e) ?_
 refine Ge (Qg ?_)
 unfold bindSpecial
 refine Qg (SV (T:="function") ⟨_,hfI₁,hfc⟩ ?_)
 rw [if_pos (by decide)]
 refine Qp (Qg (QS (hq _ (h.objs.size+1) ⟨fun b o hb=>Qd _ (Qd _ hb),PM (Gu _),h.objs.size,hget,PM (Qh _),?_⟩ (Gu _)) (fun r s' hr=>?_) fun _ _ x=>x))
 · exact Qd _ (Ng rfl rfl)
 · obtain ⟨rfl,hQ⟩:=hr
   wp_walk
   exact hQ
theorem Zni (T:VT bm){rest:List Qb}{fI:Addr}{oI:Obj}{Q:Qb->Qe->Prop}
 (hC:h.get? C=some (GZ nm q C N bs bm true sn sub ab col dd k0 k1 k2 k3 k5 "ValueError.__new__")) (LI:GK (Qt prog w) h (QY (.ref C) "__init__") (some (.ref fI)))
 (hfI:h.get? fI=some oI) (hfc:oI.cls=.type "function")
 (hq:∀ h' e,Heap.MadeExcOf h h' e (.ref C) rest->h.objs.size<=e ->
  Qq (Qt prog w) (A.under (.builtin "type.__call__" ⟨.ref C::rest,[]⟩)) (call (.ref fI) (.ref e::rest)) (fun r s'=>r=.none/\Q (.ref e) s') E ⟨h',g,d,t,os⟩) (hrest:rest.length<=Qi) :
 Qq (Qt prog w) A (call (.ref C) rest) Q E ⟨h,g,d,t,os⟩:=by
 have f1:=tc_lookup
 have f2:=tc_bind (.ref C)
 have hT:(⟨h,g,d,t,os⟩:Qe).TypeIs (.ref C) "type":=⟨_,hC,rfl⟩
 refine JF (NU ?_)
 show Qq _ _ (callAny (.ref C) _) _ _ _
 repeat (any_goals (first | assumption | with_reducible refine QI hC ?_ | wp_step))
 refine ⟨rfl,?_⟩
 refine codeAny_call_builtin_at (JY _ (by decide +kernel)) entry_typeCall (wpAny_check_type_call_sub hC (ZeP T hC LI hfI hfc (fun h' e hm hle=>?_) hrest))
 exact hq h' e hm hle
theorem Zly {M:Oh}{env:Env}{s:Qe}{x:Sem Qb}{Q:Flow->Qe->Prop}(T:VT bm)(hh:A.handled=none)
 (h:Qq M A x (fun v s₁=>∃ e oe vs,v=.ref e/\s₁.heap.get? C=some (GZ nm q C N bs bm true sn sub ab col dd k0 k1 k2 k3 k5 "ValueError.__new__") /\
  s₁.heap.get? e=some oe/\oe.cls=.ref C/\oe.data=.fields vs/\vs[1]?=some .none/\E (.ref e) s₁) E s) :
 Qq M A (raiseStmt env (some x) none) Q E s:=by
 have hcB:(Qo C::bm).contains (.type "BaseException")=true:=by rw [contains_cons,T.has GQ.hasBase,SZ]
 unfold raiseStmt
 refine Qg (QS h (fun v s₁ h₁=>?_) fun _ _ x=>x)
 obtain ⟨e,oe,vs,rfl,hC,he,hcl,hd,h1,hE⟩:=h₁
 obtain ⟨oc,odi,oda,osl⟩:=oe
 dsimp only at hcl hd
 subst hcl hd
 obtain ⟨hp,g,d,tk,os⟩:=s₁
 repeat (first | with_reducible refine QI he ?_ | with_reducible refine QI hC ?_ | (with_reducible refine Gs hC ?_;rw [hcB]) | with_reducible refine JG he rfl h1 ?_ | wp_step)
 exact wpAny_raiseNew_none hh hE
end
section
variable {prog:Qk}{w:Qv}{A:QF}{E:Qb->Qe->Prop}{h:Heap}{g:Array OL}{d:Drawn}{t:Nat}{os:OsState}
variable {nm q:Str}{C N x:Addr}{bs bm:List Qb}{sn:List Str}{sub:List Qb}{ab:Bool}{col:Option Bool}{dd:Option Addr}{k0 k1 k2 k3 k5:Option Qb}{name:Str}{v:Qb}{o:Obj}
theorem Zgh {M:Oh}{nameV:Qb}{Q:Unit->Qe->Prop}(T:VT bm)
 (hC:h.get? C=some (GZ nm q C N bs bm true sn sub ab col dd k0 k1 k2 k3 k5 "ValueError.__new__")) (hx:h.get? x=some o) (hc:o.cls=.ref C) (hq:Q () ⟨h,g,d,t,os⟩) :
 Qq M A (Gx "object.__setattr__" ⟨[.ref x,nameV,v],[]⟩) Q E ⟨h,g,d,t,os⟩:=by
 have SF:=JT
 have hcB:(Qo C::bm).contains (.type "object")=true:=by rw [contains_cons,T.has SF.hasOwner,SZ]
 have ha:=SF.args (.ref x) nameV v
 simp only [Gx,SF.kind,SF.split]
 refine Qg ?_
 ·unfold isInstance
  repeat (first | (with_reducible refine QI hx ?_;rw [hc]) | (with_reducible refine Gs hC ?_;rw [hcB]) | wp_step)
  exact hq
theorem Zla {Q:Unit->Qe->Prop}(T:VT bm)(hC:h.get? C=some (GZ nm q C N bs bm true sn sub ab col dd k0 k1 k2 k3 k5 "ValueError.__new__"))
   (LS:GK (Qt prog w) h (QY (.ref C) "__setattr__") (some (.builtin "object.__setattr__"))) (LN:GK (Qt prog w) h (QY (.ref C) name) none)
   (hx:h.get? x=some o) (hc:o.cls=.ref C) (hdn:o.dict=none) (hnc:∀ c,o.data≠.cls c)
   (hq:∀ h' tk',h'.get? x=some { o with dict:=some h.objs.size }->h'.Ns1 h.objs.size (fun y=>if y=name then some v else none)->(∀ b ob,b≠x->h.get? b=some ob->h'.get? b=some ob)->Q () ⟨h',g,d,tk',os⟩) :
   Qq (Qt prog w) A (setAttr (.ref x) name v) Q E ⟨h,g,d,t,os⟩:=by
 have SF:=JT
 have f3:=SF.slot.bind (.ref x)
 unfold setAttr callSpecial? specialOf
 have LS':∀ {tk:Nat} {A:QF} {Q:Option Qb->Qe->Prop} {E:Qb->Qe->Prop},Q (some (.builtin "object.__setattr__")) ⟨h,g,d,tk,os⟩->Qq (Qt prog w) A (QY (.ref C) "__setattr__") Q E ⟨h,g,d,tk,os⟩:=fun q=>LS _ _ _ _ (fun _ _ e=>e) q
 have LN':∀ {tk:Nat} {A:QF} {Q:Option Qb->Qe->Prop} {E:Qb->Qe->Prop},Q none ⟨h,g,d,tk,os⟩->Qq (Qt prog w) A (QY (.ref C) name) Q E ⟨h,g,d,tk,os⟩:=fun q=>LN _ _ _ _ (fun _ _ e=>e) q
 repeat (any_goals (first | assumption | (with_reducible refine QI hx ?_;rw [hc]) | (with_reducible refine LS' ?_) | wp_step))
 refine GY SF.slot.plain SF.entry (Zgh T hC hx hc ?_)
 have hpass:=T.refuse (.ref x)
 unfold Jy.«object.__setattr__»
 repeat (first | rw [refuse_eq] | (rw [refuseLoop_ref,hpass]) | (with_reducible refine QI hx ?_;rw [hc]) | with_reducible refine wpAny_mroOf_exc hC ?_ | (with_reducible refine LN' ?_) | wp_step)
 rw [hdn,if_neg (by simp [typeHasDict])]
 split
 · rename_i hcd
   cases hcd
 split
 · rename_i c hcd
   exact absurd hcd (hnc c)
 · have hx₁:(h.push { cls:=.type "dict",data:=.dict #[] }).get? x=some o:=Qd _ hx
   have hxs:x≠h.objs.size:=Qw (Qj hx)
   refine Qg (wpAny_alloc' ?_)
   refine Qg (wpAny_update' hx₁ ?_)
   refine Qp ?_
   have hgd:((h.push { cls:=.type "dict",data:=.dict #[] }).update x fun o=>{ cls:=o.cls,dict:=some h.objs.size,data:=o.data,slots:=o.slots }).get? h.objs.size
       = some { cls:=.type "dict",data:=.dict #[] } :=
     (Th _ _ _ _ hxs.symm).trans (Ng rfl rfl)
   have hnd:((h.push { cls:=.type "dict",data:=.dict #[] }).update x fun o=>{ cls:=o.cls,dict:=some h.objs.size,data:=o.data,slots:=o.slots }).Ns h.objs.size (fun _=>none) :=
     ⟨_,#[],_,hgd,rfl,fun e he=>absurd he (by simp),fun _=>rfl⟩
   show Qq _ _ (PH h.objs.size (.str name _) name v) _ _ _
   unfold PH ND
   refine Qg (Qp (Qg (wpAny_nsSet1 (OP hnd) fun h' hn' hs=>?_)))
   obtain ⟨oD,esD,epD,hoD,hdD,hcD⟩:=hn'.count (Within.cons name v Within.nil)
   refine Qg (Nk hoD (by rw [hdD];exact Nl (Qn hcD (by rw [length_cons,PY,QU];omega))) ?_)
   wp_walk
   have hx':h'.get? x=some { cls:=o.cls,dict:=some h.objs.size,data:=o.data,slots:=o.slots }:=by
     refine (hs.2 x hxs).trans (Js _ hx₁ ?_)
     have hfr:=(Heap.get?_some_iff.mp hx).2
     obtain ⟨oc,od,odt,osl⟩:=o
     cases odt<;>first | rfl | exact hfr
   repeat (any_goals (first | assumption | wp_step))
   exact hq h' _ hx' hn' fun b ob hbx hb=>(hs.2 b (Qw (Qj hb))).trans ((Th _ _ _ _ hbx).trans (Qd _ hb))
end
def TbAt (base:Heap)(n:Nat)(H:Hp)(h:Heap)(ea:Addr)(vs:Array Qb):Option Qb->Prop
 | none=>vs[1]?=some .none
 | some fl=>∃ T oT ts,vs[1]?=some (.ref T)/\T≠ea/\base.get? T=none/\H T=none/\n<=T/\h.get? T=some oT/\oT.data=.fields ts/\ts[3]?=some fl
def ExcAt (base:Heap)(n:Nat)(H:Hp)(ea C dx:Addr)(fl:Option Qb)(h:Heap):Prop :=
 base.get? ea=none/\H ea=none/\n<=ea/\∃ oe vs,h.get? ea=some oe/\oe.cls=.ref C/\oe.dict=some dx/\oe.data=.fields vs/\TbAt base n H h ea vs fl
def Keep (fs:List Addr)(n:Nat)(H:Hp)(h h':Heap):Prop :=
 (∀ b o,h.get? b=some o->b∈fs->∃ sl,h'.get? b=some { o with slots:=sl })/\(∀ b o,h.get? b=some o->b ∉ fs->(H b≠none\/b < n)->h'.get? b=some o) /\
 (∀ b m,h.Ns b m->h'.Ns b m)/\(∀ b v,h.IsCell b v->h'.IsCell b v)/\h.objs.size<=h'.objs.size
theorem Keep.trans {fs:List Addr}{n:Nat}{H:Hp}{h h1 h2:Heap}(a:Keep fs n H h h1)(b:Keep fs n H h1 h2):Keep fs n H h h2:=by
 refine ⟨fun c o e m=>?_,fun c o e m k=>b.2.1 c o (a.2.1 c o e m k) m k,fun c m x=>b.2.2.1 c m (a.2.2.1 c m x),fun c v x=>b.2.2.2.1 c v (a.2.2.2.1 c v x),Qn a.2.2.2.2 b.2.2.2.2⟩
 obtain ⟨sl,e1⟩:=a.1 c o e m
 obtain ⟨sl2,e2⟩:=b.1 c _ e1 m
 exact ⟨sl2,e2⟩
theorem Zgv {h h':Heap}(k:∀ b o,h.get? b=some o->(∀ vs,o.data≠.fields vs)->∃ sl,h'.get? b=some { o with slots:=sl }){b:Addr}{m:Str->Option Qb}(x:h.Ns b m):h'.Ns b m:=by
 obtain ⟨o,es,ep,ho,hd,r⟩:=x
 obtain ⟨sl,hs⟩:=k b o ho fun vs q=>by rw [hd] at q;cases q
 exact ⟨_,es,ep,hs,hd,r⟩
theorem ZbZ {h h':Heap}(k:∀ b o,h.get? b=some o->(∀ vs,o.data≠.fields vs)->∃ sl,h'.get? b=some { o with slots:=sl }){b:Addr}{v:Option Qb}(x:h.IsCell b v):h'.IsCell b v:=by
 obtain ⟨o,ho,hd⟩:=x
 obtain ⟨sl,hs⟩:=k b o ho fun vs q=>by rw [hd] at q;cases q
 exact ⟨_,hs,hd⟩
section
variable {M:Oh}{A:QF}{E:Qb->Qe->Prop}{s:Qe}{base:Heap}{n:Nat}{H:Hp}{env:Env}{outer:List Env}{L ea C dx:Addr}
theorem ZbU {oe:Obj}{vs:Array Qb}{head:Qb}{hadNext:Bool}{Q:Unit->Qe->Prop}
   (hfr:A.frames=some (env::outer)) (hl:s.heap.FunFrames base (env::outer)) (hf:env.frame=some L)
   (he:s.heap.get? ea=some oe) (hkb:base.StaysIn s.heap) (hen:base.get? ea=none) (hHe:H ea=none) (hne:n<=ea) (hcl:oe.cls=.ref C) (hdi:oe.dict=some dx) (hd:oe.data=.fields vs) (hsz:1 < vs.size) (hH:∀ b,s.heap.objs.size<=b->H b=none)
   (h:∀ h',base.StaysIn h'->h'.FunFrames base (env::outer)->ExcAt base n H ea C dx (some (Gf L)) h'->Keep (YM (env::outer)) n H s.heap h'->Q () { s with heap:=h' }) :
   Qq M A (do let a <- frameOf env;let pl <- entryPlaceOf L hadNext;let b <- Oe head a .none (Gf L) .none pl;setField (.ref ea) 1 b) Q E s:=by
 have hene:ea ∉ (env::outer).filterMap (·.frame):=fun hm=>by
   obtain ⟨_,o,ho,hnf⟩:=hl.mem hm
   rw [he] at ho;injection ho with ho;subst ho;exact hnf vs hd
 refine Qg (wpAny_frameOf_fun hfr hl hf fun h₁ hs₁=>?_)
 refine Qg (wpAny_entryPlaceOf fun pl hpl=>?_)
 unfold Oe newFields
 refine Qg (Gj ?_ (hpl.sizeOk5 _ _ _ _ _))
 have he₁:h₁.get? ea=some oe:=(hs₁.2.1 ea hene).trans he
 have kb₁:base.StaysIn h₁:=fun b o hbo=>(hs₁.2.1 b fun hm=>by rw [(hl.mem hm).1] at hbo;cases hbo).trans (hkb b o hbo)
 have he₂:=Qd (h:=h₁) { cls:=.type "traceback",dict:=none,data:=.fields ([head,.ref L,.none,Gf L,.none]++(if pl.isEmpty then Qy 6 QX else pl)).toArray } he₁
 refine RJ he₂ hd hsz ?_
 have hTe:h₁.objs.size≠ea:=Jl (Qj he₁)
 have hd₃:=TK hd (·.setIfInBounds 1 (Qo h₁.objs.size))
 have he₃:=Js (Gg (·.setIfInBounds 1 (Qo h₁.objs.size))) he₂ (Rm hd₃)
 have hT₃:=(Gm (h₁.push { cls:=.type "traceback",dict:=none,data:=.fields ([head,.ref L,.none,Gf L,.none]++(if pl.isEmpty then Qy 6 QX else pl)).toArray })
   (Gg (·.setIfInBounds 1 (Qo h₁.objs.size))) (Gv hTe)).trans (Qs h₁ rfl)
 have keep:∀ b o,b≠ea->h₁.get? b=some o ->
     ((h₁.push { cls:=.type "traceback",dict:=none,data:=.fields ([head,.ref L,.none,Gf L,.none]++(if pl.isEmpty then Qy 6 QX else pl)).toArray }).update ea (Gg (·.setIfInBounds 1 (Qo h₁.objs.size)))).get? b=some o :=
   fun b o hbe hb=>by
     rw [Gm _ _ (Gv hbe)]
     exact Qd _ hb
 have noRecord:∀ b o,s.heap.get? b=some o->(∀ vs,o.data≠.fields vs)->b≠ea:=fun b o hb hnf q=>by
   rw [q,he] at hb;injection hb with hb;subst hb;exact hnf vs hd
 have up:∀ b o,s.heap.get? b=some o->(∀ vs,o.data≠.fields vs)->∃ sl,((h₁.push { cls:=.type "traceback",dict:=none,data:=.fields ([head,.ref L,.none,Gf L,.none]++(if pl.isEmpty then Qy 6 QX else pl)).toArray }).update ea (Gg (·.setIfInBounds 1 (Qo h₁.objs.size)))).get? b=some { o with slots:=sl }:=fun b o hb hnf=>by
   obtain ⟨sl,hs⟩:=hs₁.2.2 b o hb
   exact ⟨sl,keep b _ (noRecord b o hb hnf) hs⟩
 have hmap:∀ {o:Obj} {f:Array Qb->Array Qb},(o.mapFields f).dict=o.dict:=fun {o f}=>by unfold Gg;split<;>rfl
 refine h _ (fun b o hbo=>keep b o (fun q=>by rw [q,hen] at hbo;cases hbo) (kb₁ b o hbo)) (hl.of_keeps fun b o hb hnf=>let ⟨sl,e⟩:=up b o hb hnf;⟨_,e,rfl⟩) ?_ ?_
 · refine ⟨hen,hHe,hne,_,_,he₃,(Obj.cls_mapFields _ _).trans hcl,hmap.trans hdi,hd₃,h₁.objs.size,_,_,by simp [hsz],hTe,kb₁.fresh,hH _ (by rw [hs₁.1];exact Qh _),?_,hT₃,rfl,by first | (simp;done) | (rcases hpl with rfl | ⟨_,_,_,_,_,_,_,rfl⟩<;>simp)⟩
   exact Qn hne (GH (Qj he₁))
 · refine ⟨fun b o hb hm=>?_,fun b o hb hm k=>?_,fun b m x=>Zgv up x,fun b v x=>ZbZ up x,?_⟩
   · obtain ⟨sl,hs⟩:=hs₁.2.2 b o hb
     exact ⟨sl,keep b _ (fun q=>hene (by rw [<- q];exact hm)) hs⟩
   · refine keep b o (fun q=>?_) ((hs₁.2.1 b hm).trans hb)
     rcases k with k | k
     · exact k (by rw [q];exact hHe)
     · rw [q] at k;exact absurd k (Go.mpr hne)
   · rw [Pr,JE,hs₁.1];exact Gu _
theorem ZfH {fl:Option Qb}{Q:Unit->Qe->Prop}(hfl:fl=none\/fl=some .none)
 (hfr:A.frames=some (env::outer)) (hl:s.heap.FunFrames base (env::outer)) (hf:env.frame=some L) (hkb:base.StaysIn s.heap) (x:ExcAt base n H ea C dx fl s.heap) (hH:∀ b,s.heap.objs.size<=b->H b=none)
 (h:∀ h',base.StaysIn h'->h'.FunFrames base (env::outer)->ExcAt base n H ea C dx (some (Gf L)) h'->Keep (YM (env::outer)) n H s.heap h'->Q () { s with heap:=h' }) :
 Qq M A (noteFrame (.ref ea) env) Q E s:=by
 obtain ⟨hen,hHe,hne,oe,vs,he,hcl,hdi,hd,tb⟩:=x
 unfold noteFrame
 simp only [hf]
 rcases hfl with rfl | rfl
 ·have h1:vs[1]?=some .none:=tb
  refine Qg (JG he hd h1 ?_)
  rw [if_neg (by decide)]
  exact ZbU hfr hl hf he hkb hen hHe hne hcl hdi hd (Ga.mp h1).1 hH h
 ·obtain ⟨T,oT,ts,h1,hTe,hnT,hHT,hnT2,hT,hdT,h3⟩:=tb
  refine Qg (JG he hd h1 ?_)
  rw [if_pos (show (Qo T != QX)=true from by simp)]
  refine Qg (JG hT hdT h3 ?_)
  rw [if_neg (show ¬ ((QX == Gf L)=true) from by simp [Gf])]
  refine Qg (RJ hT hdT (Ga.mp h3).1 ?_)
  have other:∀ b,b≠T->(s.heap.update T (Gg (·.setIfInBounds 3 QX))).get? b=s.heap.get? b:=fun b hb=>Gm _ _ (Gv hb)
  have noRecord:∀ b o,s.heap.get? b=some o->(∀ vs,o.data≠.fields vs)->b≠T:=fun b o hb hnf q=>by
   rw [q,hT] at hb;injection hb with hb;subst hb;exact hnf ts hdT
  have up:∀ b o,s.heap.get? b=some o->(∀ vs,o.data≠.fields vs)->∃ sl,(s.heap.update T (Gg (·.setIfInBounds 3 QX))).get? b=some { o with slots:=sl }:=fun b o hb hnf=>⟨o.slots,(other b (noRecord b o hb hnf)).trans hb⟩
  have hsz:(s.heap.update T (Gg (·.setIfInBounds 3 QX))).objs.size=s.heap.objs.size:=Pr ..
  have kp:Keep (YM (env::outer)) n H s.heap (s.heap.update T (Gg (·.setIfInBounds 3 QX))):=by
   refine ⟨fun b o hb hm=>⟨o.slots,(other b fun q=>?_).trans hb⟩,fun b o hb hm k=>(other b fun q=>?_).trans hb,fun b m x=>Zgv up x,fun b v x=>ZbZ up x,JK hsz.symm⟩
   ·obtain ⟨_,o',ho',hnf⟩:=hl.mem hm
    rw [q,hT] at ho';cases ho';exact hnf ts hdT
   ·rcases k with k | k
    ·exact k (by rw [q];exact hHT)
    ·rw [q] at k;exact absurd k (Go.mpr hnT2)
  exact ZbU (s:={ s with heap:=s.heap.update T (Gg (·.setIfInBounds 3 QX)) }) hfr (hl.of_keeps fun b o hb hnf=>⟨o,(other b (noRecord b o hb hnf)).trans hb,rfl⟩) hf ((other ea (Gv hTe)).trans he)
   (fun b o hbo=>(other b fun q=>by rw [q,hnT] at hbo;cases hbo).trans (hkb b o hbo)) hen hHe hne hcl hdi hd (Ga.mp h1).1 (fun b hb=>hH b (by rw [<- hsz];exact hb))
   fun h' x1 x2 x3 x4=>h h' x1 x2 x3 (kp.trans x4)
theorem VX {l:List Env}{fl:Qb}{Q:Unit->Qe->Prop}(hkb:base.StaysIn s.heap)(hl:s.heap.FunFrames base l)(x:ExcAt base n H ea C dx (some fl) s.heap)
 (h:∀ h',base.StaysIn h'->h'.FunFrames base l->ExcAt base n H ea C dx (some .none) h'->(∀ fs,(∀ b∈fs,∃ o,s.heap.get? b=some o/\∀ vs,o.data≠.fields vs)->Keep fs n H s.heap h')->Q () { s with heap:=h' }) :
 Qq M A (setFlight (.ref ea) none) Q E s:=by
 obtain ⟨hen,hHe,hne,oe,vs,he,hcl,hdi,hd,T,oT,ts,h1,hTe,hnT,hHT,hnT2,hT,hdT,h3⟩:=x
 have hsz3:3 < ts.size:=(Ga.mp h3).1
 have other:∀ b,b≠T->(s.heap.update T (Gg (·.setIfInBounds 3 ((none:Option Addr).elim QX fun f=>Gf f)))).get? b=s.heap.get? b :=
  fun b hb=>Gm _ _ (Gv hb)
 have noRecord:∀ b o,s.heap.get? b=some o->(∀ vs,o.data≠.fields vs)->b≠T:=fun b o hb hnf q=>by
  rw [q,hT] at hb;injection hb with hb;subst hb;exact hnf ts hdT
 have up:∀ b o,s.heap.get? b=some o->(∀ vs,o.data≠.fields vs)->∃ sl,(s.heap.update T (Gg (·.setIfInBounds 3 ((none:Option Addr).elim QX fun f=>Gf f)))).get? b=some { o with slots:=sl }:=fun b o hb hnf=>⟨o.slots,(other b (noRecord b o hb hnf)).trans hb⟩
 unfold setFlight
 refine Qg (JG he hd h1 ?_)
 rw [if_pos (show (Qo T != QX)=true from by simp)]
 refine RJ hT hdT hsz3 (h _ (fun b o hbo=>(other b fun q=>by rw [q,hnT] at hbo;cases hbo).trans (hkb b o hbo))
  (hl.of_keeps fun b o hb hnf=>⟨o,(other b (noRecord b o hb hnf)).trans hb,rfl⟩) ?_ fun fs hfs=>?_)
 ·exact ⟨hen,hHe,hne,oe,vs,(other ea (Gv hTe)).trans he,hcl,hdi,hd,T,_,_,h1,hTe,hnT,hHT,hnT2,Js _ hT (Rm (TK hdT _)),TK hdT _,by simp [hsz3]⟩
 ·refine ⟨fun b o hb hm=>⟨o.slots,(other b fun q=>?_).trans hb⟩,fun b o hb hm k=>(other b fun q=>?_).trans hb,fun b m x=>Zgv up x,fun b v x=>ZbZ up x,JK (Pr ..).symm⟩
  ·obtain ⟨o',ho',hnf⟩:=hfs b hm
   rw [q,hT] at ho';cases ho';exact hnf ts hdT
  ·rcases k with k | k
   ·exact k (by rw [q];exact hHT)
   ·rw [q] at k;exact absurd k (Go.mpr hnT2)
theorem ZdI {fl:Option Qb}{Q:Unit->Qe->Prop}(hfl:fl=none\/fl=some .none)
 (hfr:A.frames=some (env::outer)) (hl:s.heap.FunFrames base (env::outer)) (hf:env.frame=some L) (hkb:base.StaysIn s.heap) (x:ExcAt base n H ea C dx fl s.heap) (hH:∀ b,s.heap.objs.size<=b->H b=none)
 (h:∀ h',base.StaysIn h'->h'.FunFrames base outer->ExcAt base n H ea C dx (some .none) h'->Keep (YM (env::outer)) n H s.heap h'->Q () { s with heap:=h' }) :
 Qq M A (leaving env (.ref ea)) Q E s:=by
 unfold leaving
 refine Qg (ZfH hfl hfr hl hf hkb x hH fun h1 b1 f1 x1 k1=>?_)
 refine VX b1 f1 x1 fun h2 b2 f2 x2 k2=>h h2 b2 f2.2.2 x2 (k1.trans (k2 _ fun b hb=>?_))
 obtain ⟨_,o,ho,hnf⟩:=f1.mem hb
 exact ⟨o,ho,hnf⟩
end
theorem Keep.hok {P:Qk}{w:Qv}{fs:List Addr}{n:Nat}{H:Hp}{h h':Heap}(x:HOk P w H h)(hf:∀ b∈fs,H b=none)(k:Keep fs n H h h'):HOk P w H h':=fun a o e=>by
 have tr:∀ b,b=a\/H b=some (.own a)->H b≠none:=fun b hb z=>by
  rcases hb with rfl | hb
  ·rw [e] at z;cases z
  ·rw [hb] at z;cases z
 exact (x a o e).stay (fun b u hb q=>k.2.1 b u q (fun m=>tr b hb (hf b m)) (.inl (tr b hb))) (fun _ q=>q) (fun _ _ q=>q)
theorem ExcAt.le {base:Heap}{n n':Nat}{H:Hp}{ea C dx:Addr}{fl:Option Qb}{h:Heap}(x:ExcAt base n' H ea C dx fl h)(l:n<=n'):ExcAt base n H ea C dx fl h:=by
 obtain ⟨a,b,c,oe,vs,e1,e2,e3,e4,tb⟩:=x
 refine ⟨a,b,Qn l c,oe,vs,e1,e2,e3,e4,?_⟩
 cases fl with
 | none=>exact tb
 | some f=>obtain ⟨T,oT,ts,t1,t2,t3,t4,t5,t6⟩:=tb;exact ⟨T,oT,ts,t1,t2,t3,t4,Qn l t5,t6⟩
section
variable {X:Cx}{pins:List (Addr×Obj)}{σ:St}{H H1 H2:Hp}{s s1 s2:Qe}{h':Heap}
def ZfZ (n:Nat)(H:Hp)(h:Heap):List Addr:=(Gd h.objs.size).filter fun b=>(H b).isNone&&decide (n<=b)
theorem Inv.flown {t':Nat}(I1:Inv X pins σ H1 s1)(I2:Inv X pins σ H2 s2)(k:Keep (YM X.stack) s1.heap.objs.size H2 s2.heap h'):Inv X pins σ H2 { s2 with heap:=h',toks:=t' }:=by
 have mem:∀ b,b∈ZfZ s1.heap.objs.size H2 s2.heap->s1.heap.objs.size<=b:=fun b hb=>by
  have:=(mem_filter.mp hb).2
  simp only [QL,decide_eq_true_eq] at this
  exact this.2
 have out:∀ b o,s2.heap.get? b=some o->b ∉ ZfZ s1.heap.objs.size H2 s2.heap->H2 b≠none\/b < s1.heap.objs.size:=fun b o e hb=>by
  by_cases z:H2 b=none
  ·refine .inr (Nat.lt_of_not_le fun l=>hb (mem_filter.mpr ⟨mem_range.mpr (Qj e),?_⟩))
   rw [z];simp [l]
  ·exact .inl z
 refine I2.call (g':=s2.gens) (d':=s2.drawn) (ch:=ZfZ s1.heap.objs.size H2 s2.heap) ⟨fun b o e hn hf hc=>k.2.1 b o e hf (out b o e hc),fun b o e hn hf hc=>k.1 b o e hf,fun b o e hn hc=>hn,fun b o e hc=>?_,fun _ _ e=>e,fun _ _ _ e=>e,fun _ ps e=>⟨#[],by rw [e];simp⟩⟩ (k.hok I2.hok I2.stkFree) I2.bare fun b hb=>?_
 ·by_cases m:b∈YM X.stack
  ·obtain ⟨sl,q⟩:=k.1 b o e m;exact ⟨_,q⟩
  ·exact ⟨o,k.2.1 b o e m (out b o e hc)⟩
 ·have hb':=mem b hb
  refine ⟨.inr (Qn I1.sz hb'),fun z=>?_,fun x c hx z=>?_,fun p hp z=>?_⟩
  ·have:=I1.lt;rw [<- z] at this;exact absurd this (Go.mpr hb')
  ·obtain ⟨v,o,e,_⟩:=I1.cell x c hx
   have:=Qj e;rw [z] at this;exact absurd this (Go.mpr hb')
  ·have:=Qj (I1.pin p hp).1;rw [z] at this;exact absurd this (Go.mpr hb')
structure Cx.Old (X:Cx)(a:Addr):Prop where
 t:∀ xs,X.H₀ a≠some (.tup xs)
 f:∀ o u,X.H₀ a≠some (.frz o u)
 b:∀ ps,X.H₀ a≠some (.tbl ps)
theorem Inv.old {a:Addr}(I:Inv X pins σ H s)(h:H a=none):X.Old a where
 t:=fun xs e=>(by have:=I.base.tups a xs e;rw [h] at this;cases this)
 f:=fun o u e=>(by have:=I.base.frzs a o u e;rw [h] at this;cases this)
 b:=fun ps e=>(by obtain ⟨m,q⟩:=I.base.tbls a ps e;rw [h] at q;cases q)
theorem Cx.Old.nt {a b:Addr}(O:X.Old a){xs:List V}(e:X.H₀ b=some (.tup xs)):b≠a:=fun z=>O.t xs (by rw [<- z];exact e)
theorem Cx.Old.nf {a b:Addr}(O:X.Old a){o:Obj}{u:HO}(e:X.H₀ b=some (.frz o u)):b≠a:=fun z=>O.f o u (by rw [<- z];exact e)
theorem Cx.Old.nb {a b:Addr}(O:X.Old a){ps:Array Qb}(e:X.H₀ b=some (.tbl ps)):b≠a:=fun z=>O.b ps (by rw [<- z];exact e)
theorem Inv.track {a:Addr}{o:HO}(I:Inv X pins σ H s)(hn:H a=none)(h0:X.s₀.heap.objs.size<=a)(hL:a≠X.env.locals)(hC:∀ x c,X.env.cells.lookup x=some c->c≠a)(hp:∀ p∈X.pn++pins,p.1≠a)
 (new:ObjOk X.prog X.w (upd H a o) s.heap a o):Inv X pins σ (upd H a o) s:=by
 have old:∀ b u,X.s₀.heap.get? b=some u->b≠a:=fun b u e z=>by
  have:=Qj e;rw [z] at this;exact absurd this (Go.mpr h0)
 refine ⟨I.ok,I.os,I.bare,⟨I.base.keep,I.base.slot,fun b u e n hx=>?_,I.base.there,fun b xs e=>?_,fun b u xs e=>?_,fun b ps e=>?_⟩,I.loc,I.cell,?_,fun x c hx=>?_,fun p hp'=>?_,fun b u e=>?_,I.len⟩
 ·rw [Zg (old b u e)];exact I.base.free b u e n hx
 ·rw [Zg ((I.old hn).nt e)];exact I.base.tups b xs e
 ·rw [Zg ((I.old hn).nf e)];exact I.base.frzs b u xs e
 ·rw [Zg ((I.old hn).nb e)];exact I.base.tbls b ps e
 ·rw [Zg (Gv hL)];exact I.free
 ·rw [Zg (hC x c hx)];exact I.freeC x c hx
 ·obtain ⟨e1,e2,e3⟩:=I.pin p hp'
  exact ⟨e1,by rw [Zg (hp p hp')];exact e2,e3⟩
 ·by_cases z:b=a
  ·subst z;rw [Zf] at e;cases e;exact new
  ·rw [Zg z] at e
   exact (I.hok b u e).stay (fun _ _ _ q=>q) (fun c q=>by rw [Zg (Zt q hn)];exact q) (fun c xs q=>by rw [Zg (Zt q hn)];exact q)
end
def Uz (P:Qk)(w:Qv)(base:Heap):Ux:=fun outer H s E e s'=>∃(ea C dx:Addr)(H':Hp),e=.ref ea/\base.StaysIn s'.heap/\s'.heap.FunFrames base outer/\ExcAt base s.heap.objs.size H' ea C dx (some .none) s'.heap/\s'.os=s.os/\Tj s'.gens /\
 Un (YM outer) [] H H' s.heap s'.heap/\HOk P w H' s'.heap/\E (.ref C) (some dx) H'
section
variable {P:Qk}{w:Qv}{K:Qa}{mg:Str->Option Qb}{base:Heap}{k:Nat}{f:Addr}{fd:Qm}{ps:List Str}{sp sp':Sp}{CX:Ux}
def XY (X:Cx)(EE:St->XK):Prop:=∀(pins:List (Addr×Obj))(σ:St)(H1 H2:Hp)(s1 s2:Qe)(ea C dx:Addr)(fl:Option Qb),Inv X pins σ H1 s1->Inv X pins σ H2 s2->(fl=none\/fl=some .none)->ExcAt X.base s1.heap.objs.size H2 ea C dx fl s2.heap->EE σ (.ref C) (some dx) H2->X.xe (.ref ea) s2
theorem Ziy {N:List Str}{qual:Str}{scope:Scope}{cd:Qb}{A:QF}{outer:List Env}{s:Qe}{H:Hp}{E:XK}:XY (ZQ (Uz P w base) P w K mg base N qual scope f cd A outer s H E) (fun _=>E):=by
 intro pins σ H1 H2 s1 s2 ea C dx fl I1 I2 hfl x q
 have hsz:s.heap.objs.size<=s1.heap.objs.size:=I1.sz
 have hok2:HOk P w H2 s2.heap:=I2.hok
 refine ZdI (base:=base) (n:=s.heap.objs.size) (H:=H2) (outer:=outer) (L:=s.heap.objs.size) hfl I2.ok.frames I2.stack rfl I2.bk (x.le hsz) (fun b hb=>hok2.fresh hb) fun h' b1 f1 x1 k1=>?_
 have un:Un (YM outer) [] H H2 s.heap s2.heap:=I2.base
 have nL:∀ b o,s.heap.get? b=some o->b ∉ YM outer->b ∉ YM (PB qual scope s.heap.objs.size f cd::outer):=fun b o e hf m=>by
  rcases mem_filterMap.mp m with ⟨v,hv,ev⟩
  rcases mem_cons.mp hv with rfl | hv
  ·cases (show some s.heap.objs.size=some b from ev);exact absurd (Qj e) (GJ _)
  ·exact hf (mem_filterMap.mpr ⟨v,hv,ev⟩)
 have inL:∀ b,b∈YM outer->b∈YM (PB qual scope s.heap.objs.size f cd::outer):=fun b m=>by
  obtain ⟨v,hv,ev⟩:=mem_filterMap.mp m
  exact mem_filterMap.mpr ⟨v,mem_cons_of_mem _ hv,ev⟩
 refine ⟨ea,C,dx,H2,rfl,b1,f1,x1,I2.os,I2.bare,⟨fun b o e hn hf hx=>k1.2.1 b o (un.keep b o e hn hf hx) (nL b o e hf) (.inr (Qj e)),fun b o e hn hf hx=>?_,un.free,fun b o e hx=>?_,un.tups,un.frzs,un.tbls⟩,k1.hok hok2 I2.stkFree,q⟩
 ·obtain ⟨sl,e1⟩:=un.slot b o e hn hf hx
  obtain ⟨sl2,e2⟩:=k1.1 b _ e1 (inL b hf)
  exact ⟨sl2,e2⟩
 ·obtain ⟨o',e1⟩:=un.there b o e hx
  by_cases m:b∈YM (PB qual scope s.heap.objs.size f cd::outer)
  ·obtain ⟨sl,e2⟩:=k1.1 b o' e1 m;exact ⟨_,e2⟩
  ·exact ⟨o',k1.2.1 b o' e1 m (.inr (Qj e))⟩
end
abbrev Cx.tryc (X:Cx)(pn:List (Addr×Obj))(Z:Qb->Qe->Prop):Cx:={ X with pn:=pn,xe:=Z }
abbrev Cx.marked (X:Cx)(ea:Addr)(Z:Qb->Qe->Prop):Cx:={ X with A:=X.A.mark (some (.ref ea)),calm:=false,xe:=Z }
def XO (ea C dx:Addr):HO:=.ext fun h=>∃ oe vs,h.get? ea=some oe/\oe.cls=.ref C/\oe.dict=some dx/\oe.data=.fields vs
section
variable {X:Cx}{pins:List (Addr×Obj)}{σ:St}{H:Hp}{s:Qe}
theorem Inv.tryc (I:Inv X pins σ H s)(Z:Qb->Qe->Prop):Inv (X.tryc (X.pn++pins) Z) [] σ H s :=
 ⟨⟨I.ok.mod,I.ok.kind,I.ok.glob,I.ok.blt,I.ok.above,I.ok.inj,I.ok.has,I.ok.cab,I.ok.hd,I.ok.frames,I.ok.stk,I.ok.exf,I.ok.bs,I.ok.bsz,I.ok.noex,I.ok.exfs,I.ok.funs,I.ok.frf⟩,I.os,I.bare,I.base,I.loc,I.cell,I.free,I.freeC,fun p hp=>I.pin p (by rw [append_nil] at hp;exact hp),I.hok,I.len⟩
theorem Inv.untryc {pins':List (Addr×Obj)}{Z:Qb->Qe->Prop}(I:Inv (X.tryc (X.pn++pins) Z) pins' σ H s):Inv X pins σ H s :=
 ⟨⟨I.ok.mod,I.ok.kind,I.ok.glob,I.ok.blt,I.ok.above,I.ok.inj,I.ok.has,I.ok.cab,I.ok.hd,I.ok.frames,I.ok.stk,I.ok.exf,I.ok.bs,I.ok.bsz,I.ok.noex,I.ok.exfs,I.ok.funs,I.ok.frf⟩,I.os,I.bare,I.base,I.loc,I.cell,I.free,I.freeC,fun p hp=>I.pin p (GV _ hp),I.hok,I.len⟩
theorem Inv.mark (I:Inv X pins σ H s)(ea:Addr)(Z:Qb->Qe->Prop):Inv (X.marked ea Z) pins σ H s :=
 ⟨⟨I.ok.mod,I.ok.kind,I.ok.glob,I.ok.blt,I.ok.above,I.ok.inj,I.ok.has,I.ok.cab,(fun z=>by cases z),I.ok.frames,I.ok.stk,I.ok.exf,I.ok.bs,I.ok.bsz,I.ok.noex,I.ok.exfs,I.ok.funs,I.ok.frf⟩,I.os,I.bare,I.base,I.loc,I.cell,I.free,I.freeC,I.pin,I.hok,I.len⟩
theorem Inv.unmark {ea:Addr}{Z:Qb->Qe->Prop}(I:Inv (X.marked ea Z) pins σ H s)(hd:X.calm=true->X.A.handled=none):Inv X pins σ H s :=
 ⟨⟨I.ok.mod,I.ok.kind,I.ok.glob,I.ok.blt,I.ok.above,I.ok.inj,I.ok.has,I.ok.cab,hd,I.ok.frames,I.ok.stk,I.ok.exf,I.ok.bs,I.ok.bsz,I.ok.noex,I.ok.exfs,I.ok.funs,I.ok.frf⟩,I.os,I.bare,I.base,I.loc,I.cell,I.free,I.freeC,I.pin,I.hok,I.len⟩
theorem Zlp {M:Oh}{A:QF}{E:Qb->Qe->Prop}{i:Nat}{x:Str}{pos:Pos}{Q:Unit->Qe->Prop}(I:Inv X pins σ H s)(hN:X.N.Nodup)(hi:X.N[i]?=some x)(hk:X.env.kindOf x=some .local)
 (h:∀ s',Inv X pins (σ.set i none) H s'->Q () s'):Qq M A (do JC X.env x .none;RL X.env x pos) Q E s:=by
 obtain ⟨m,hn,hl⟩:=id I.loc
 have hcls:(X.env.scope.kind == .class || (X.env.scope.kind == .module&&X.env.locals != X.env.globals))=false:=by rw [I.ok.kind];rfl
 have cne:=I.cne
 refine wpAny_nameGoes_keeps hk hn hcls fun h' v hn' hs=>?_
 obtain ⟨oL,_,_,hoL,_⟩:=id hn
 refine h _ ⟨I.ok,I.os,I.bare,⟨fun b o e n hb hx=>?_,fun b o e n hb hx=>?_,I.base.free,fun b o e hx=>?_,I.base.tups,I.base.frzs,I.base.tbls⟩,⟨_,hn',fun j y v' e1 e2 e3=>?_⟩,fun y c e=>?_,I.free,I.freeC,fun p hp=>?_,fun b ob e=>?_,by simpa using I.len⟩
 ·exact (hs.2 b (Qw (QD (Qj e) I.ok.above))).trans (I.base.keep b o e n hb hx)
 ·obtain ⟨sl,e1⟩:=I.base.slot b o e n hb hx
  exact ⟨sl,(hs.2 b (Qw (QD (Qj e) I.ok.above))).trans e1⟩
 ·obtain ⟨o',e1⟩:=I.base.there b o e hx
  exact ⟨o',(hs.2 b (Qw (QD (Qj e) I.ok.above))).trans e1⟩
 ·by_cases hj:j=i
  ·subst hj
   rw [getElem?_set] at e2
   split at e2
   ·split at e2<;>cases e2
   ·rename_i z;exact absurd rfl z
  ·rw [PN (Gv hj)] at e2
   obtain ⟨u',r',q⟩:=hl j y v' e1 e2 e3
   refine ⟨u',r',?_⟩
   rcases q with ⟨k,e⟩ | ⟨k,c,e,z⟩
   ·refine .inl ⟨k,?_⟩
    have:y≠x:=fun e=>hj (ZaJ hN e1 (e ▸ hi))
    simp [this,e]
   ·exact .inr ⟨k,c,e,z.sameBut hs (cne y c e)⟩
 ·obtain ⟨w',z⟩:=I.cell y c e
  exact ⟨w',z.sameBut hs (cne y c e)⟩
 ·obtain ⟨e,n,ne,nf,d⟩:=I.pin p hp
  exact ⟨(hs.2 p.1 ne).trans e,n,ne,nf,d⟩
 ·refine (I.hok b ob e).stay (fun c w' hc q=>(hs.2 c ?_).trans q) (fun _ q=>q) fun _ _ q=>q
  rintro rfl
  rcases hc with rfl | hc
  ·rw [I.free] at e;cases e
  ·rw [I.free] at hc;cases hc
end
def ZmC (K:Qa)(C0:Addr)(i:Nat)(tb:(St->XK)->TS)(th:TS):TS:=fun D σ H =>
 tb (fun σ' Cv dO H'=>∃ C dx,Cv=.ref C/\dO=some dx/\PySem.W.exmOne K (.ref C) (.ref C0)=some true/\∀ ea,H' ea=none ->
  th { nx:=fun σ2 H2=>D.nx (σ2.set i none) H2,rt:=D.rt,bk:=fun σ2 H2=>D.bk (σ2.set i none) H2,ct:=fun σ2 H2=>D.ct (σ2.set i none) H2 } (σ'.set i (some (.ref ea))) (upd H' ea (XO ea C dx))) D σ H
section
variable {X:Cx}{body suite:List Stmt}{b0:Stmt}{C0:Addr}{x0 n:Str}{i:Nat}{tb:(St->XK)->TS}{th:TS}{p0 hp pos:Pos}
theorem ZjE (hcalm:X.calm=true)(hst:X.stack=X.env::X.outer)(hfr:X.env.frame=some X.env.locals)(hN:X.N.Nodup)(hi:X.N[i]?=some n)(hk:X.env.kindOf n=some .local)(hg:Gl X x0)(hm:X.mg x0=some (.ref C0))(hdb:(x0 == ("__debug__":Str))=false)
 (hb:∀ pn Z EE,XY (X.tryc pn Z) EE->PSs (X.tryc pn Z) body (tb EE)) (hh:∀ ea Z,PSs (X.marked ea Z) (b0::suite) th) :
 PS X (.Try body [.ExceptHandler (some (.Name x0 p0)) (some n) (b0::suite) hp] [] [] pos) (ZmC X.K C0 i tb th):=by
 intro pins s σ H D I h
 rw [arm_exec_Try]
 refine Qg (Gz (wpAny_tryStmt_except ?_))
 refine QS (hb (X.pn++pins) _ _ ?W [] s σ H D (I.tryc _) h) (fun f s1 hs=>?_) (fun e s1 z=>z)
 case W =>
  intro pins' σ1 H1 H2 s1 s2 ea C dx fl I1 I2 hfl x q
  have J1:=I1.untryc
  have J2:=I2.untryc
  obtain ⟨C',dx',e1,e2,hex,hq⟩:=q
  cases e1
  cases e2
  have fr:X.A.frames=some (X.env::X.outer):=by rw [<- hst];exact J2.ok.frames
  have ff:s2.heap.FunFrames X.base (X.env::X.outer):=by rw [<- hst];exact J2.stack
  have off:∀ {h:Heap},h.FunFrames X.base (X.env::X.outer)->∀ b∈YM (X.env::X.outer),∃ o,h.get? b=some o/\∀ vs,o.data≠.fields vs:=fun f b hb=>(f.mem hb).2
  refine ZfH (base:=X.base) (n:=s1.heap.objs.size) (H:=H2) hfl fr ff hfr J2.bk x (fun b hb=>J2.hok.fresh hb) fun h3 b3 f3 x3 k3=>?_
  refine VX b3 f3 x3 fun h4 b4 f4 x4 k4=>?_
  have k34:=k3.trans (k4 _ (off f3))
  have J4:Inv X pins σ1 H2 { s2 with heap:=h4 }:=J1.flown (t':=s2.toks) J2 (by rw [hst];exact k34)
  refine wpAny_handleBy_cons (codeAny_handlers_test ?_) (by intro q;cases q)
  refine WY (X:=X.marked ea X.xe) (J4.mark ea X.xe) hg hm ?_ hdb
  have LT:GK (Qt X.prog X.w) h4 (typeOf (.ref ea)) (.ref C):=by
   obtain ⟨_,_,_,oe,vs,he,hc,_⟩:=x4
   rw [<- hc];exact (NE he).andThen .now
  refine (PySem.W.exm_one (h:=h4) J4.kIn LT hex) _ _ _ _ (fun _ _ e=>e) ?_
  refine codeAny_handlers_suite_as ?_
  refine VX b4 f4 x4 fun h5 b5 f5 x5 k5=>?_
  have k45:=k34.trans (k5 _ (off f4))
  have J5:Inv X pins σ1 H2 { s2 with heap:=h5 }:=J1.flown (t':=s2.toks) J2 (by rw [hst];exact k45)
  obtain ⟨hen,hHe,hne,oe,vs,he,hc,hdi,hd,_⟩:=id x5
  have lt1:∀ b,b < s1.heap.objs.size->b≠ea:=fun b hb z=>by rw [z] at hb;exact absurd hb (Go.mpr hne)
  have J6:Inv X pins σ1 (upd H2 ea (XO ea C dx)) { s2 with heap:=h5 }:=by
   refine J5.track hHe (Qn J1.sz hne) (fun z=>lt1 _ J1.lt z.symm) (fun y c hy=>?_) (fun p hp=>lt1 _ (Qj (J1.pin p hp).1)) ?_
   ·obtain ⟨v,o,e,_⟩:=J1.cell y c hy
    exact lt1 _ (Qj e)
   ·exact ⟨⟨oe,vs,he,hc,hdi,hd⟩,⟨oe,he⟩,fun h1 h2 ⟨oe,vs,e,r⟩ k=>⟨oe,vs,k _ e,r⟩⟩
  refine Xj (X:=X) J6 hN hi (.inl hk) (v:=.ref ea) rfl (fun s6 J8=>?_) (.inr hk)
  refine QS (hh ea _ pins s6 _ _ _ (J8.mark ea _) (hq ea hHe)) (fun f s7 hs=>?_) (fun _ _ z=>z)
  have back:∀ {Z:Qb->Qe->Prop} {σ':St} {H':Hp} {Q:Unit->Qe->Prop},Inv (X.marked ea Z) pins σ' H' s7->(∀ s',Inv X pins (σ'.set i none) H' s'->Q () s')->Qq (Qt X.prog X.w) X.A (do JC X.env n .none;RL X.env n hp) Q X.xe s7:=fun J q=>Zlp (J.unmark J1.ok.hd) hN hi hk q
  cases f with
  | next=>obtain ⟨σ',H',J,q⟩:=hs;exact back J fun s' J'=>⟨_,H',J',q⟩
  | brk=>obtain ⟨σ',H',J,q⟩:=hs;exact back J fun s' J'=>⟨_,H',J',q⟩
  | cont=>obtain ⟨σ',H',J,q⟩:=hs;exact back J fun s' J'=>⟨_,H',J',q⟩
  | ret u=>obtain ⟨v,σ',H',J,r,q⟩:=hs;exact back J fun s' J'=>⟨v,_,H',J',r,q⟩
 ·cases f with
  | next=>obtain ⟨σ',H',J,q⟩:=hs;exact Qp ⟨σ',H',J.untryc,q⟩
  | brk=>obtain ⟨σ',H',J,q⟩:=hs;exact ⟨σ',H',J.untryc,q⟩
  | cont=>obtain ⟨σ',H',J,q⟩:=hs;exact ⟨σ',H',J.untryc,q⟩
  | ret u=>obtain ⟨v,σ',H',J,r,q⟩:=hs;exact ⟨v,σ',H',J.untryc,r,q⟩
end
def DefMX (P:Qk)(w:Qv)(K:Qa)(mg:Str->Option Qb)(base:Heap)(k:Nat)(C:Addr)(m:Str)(ps:List Str)(sp:Sp):Prop:=∃ f fd,FnOk P w K mg base (Uz P w base) k f fd ps sp/\Binds K fd ps []/\VR K C m f
section
variable {P:Qk}{w:Qv}{K:Qa}{mg:Str->Option Qb}{base:Heap}{j k:Nat}{C:Addr}{x m:Str}{ps:List Str}{sp:Sp}
theorem DefMX.mono (D:DefMX P w K mg base j C m ps sp)(h:j<=k):DefMX P w K mg base k C m ps sp:=let ⟨f,fd,F,b,q⟩:=D;⟨f,fd,F.mono h,b,q⟩
end
def ZmR (C:Addr)(m:Str)(sp:Sp)(EE:St->XK)(ta:TE)(t:TA):TE:=fun σ H Q=>ta σ H fun x H1=>∃ a dx fs,x=.ref a/\H1 a=some (.ins C dx fs)/\fs.lookup m=none/\t σ H1 fun vs H2=>sp (x::vs) H2 Q (EE σ)
section
variable {X:Cx}{EE:St->XK}{k:Nat}{f C:Addr}{fd:Qm}{ps:List Str}{sp:Sp}{x m:Str}{p pos apos:Pos}{e o:Expr}{es:List Expr}{ta:TE}{t:TA}
theorem Zlz {pins:List (Addr×Obj)}{σ:St}{H:Hp}{s:Qe}{Q:VK}{us:List Qb}{vs:List V}(W:XY X EE)(F:FnOk X.prog X.w X.K X.mg X.base (Uz X.prog X.w X.base) k f fd ps sp)(hr:Room k X.A)(hb:Binds X.K fd ps [])
 (I:Inv X pins σ H s) (r:Vals vs us) (h:sp vs H Q (EE σ)):Qq (Qt X.prog X.w) X.A (call (.ref f) us) (EP X pins σ Q) X.xe s:=by
 have hl:(us++[]).length=ps.length:=by rw [append_nil,<- r.length];exact F.len _ _ _ _ h
 have hb':=hb s us I.kIn hl
 rw [append_nil] at hb'
 refine JF (GA (F.run X.A X.stack s H ⟨us,[]⟩ us vs Q (EE σ) hr I.env0 hb' r h) fun r s' hq=>?_)
 cases r with
 | error e =>
  obtain ⟨ea,C,dx,H',rfl,kb,ff,x,os,gb,un,hok,q⟩:=hq
  exact W pins σ H H' s s' ea C dx _ I (I.call' os un hok gb fun b z=>absurd z (by simp)) (.inr rfl) x q
 | ok fl =>
  cases fl with
  | ret u=>exact I.after hq
  | next=>exact QN hq
  | brk=>exact QN hq
  | cont=>exact QN hq
theorem ZfM {pl:Sem Bool}(W:XY X EE)(D:DefMX X.prog X.w X.K X.mg X.base k C m ps sp)(c:Cls X.K C)(hr:Room k X.A)(he:PE X o ta)(ha:PA X (e::es) t)
 (hst:QE (e::es) X.env=(false,eval e X.env)::QE es X.env:=by rfl) (hpl:(Jg pos (QE es X.env)).any (·.1)=false:=by rfl)
 (ht:eval (.Call (.Attribute o m apos) (e::es) [] pos) X.env=(do
  let ov <- eval o X.env
  TV apos.atName
  let (f,first) <- Pd [ov] (Tq ov m pl)
  Sq pos f first (Jg pos (QE (e::es) X.env)) (PQ pos (Jk [] X.env))):=by rfl) :
 PE X (.Call (.Attribute o m apos) (e::es) [] pos) (ZmR C m sp EE ta t):=by
 obtain ⟨f,fd,F,b,hm⟩:=D
 intro pins s σ H Q I h
 refine Pw (pl:=pl) (Zs (he pins s σ H _ I h) fun u s1 ⟨x,H1,I1,rx,a,dx,fs,ex,ea,l,q⟩=>?_) ht
 subst ex
 obtain rfl:u=Qo a:=rx
 refine Vs I1 ea c hm l ?_
 refine JW (h₀:=X.base) (first:=[.ref a]) I1.ok.mod.kin hm.kp (Zs (ha pos pins s1 σ H1 _ I1 q) fun us s2 ⟨vs,H2,I2,r,q2⟩=>⟨I2.kIn,?_⟩) hst hpl
 exact Zlz (us:=.ref a::us) (vs:=.ref a::vs) W F hr b I2 (.cons rfl r) q2
end
theorem Fun.okX {P:Qk}{w:Qv}{K:Qa}{mg:Str->Option Qb}{base:Heap}{x qual:Str}{st:Stmt}{f:Addr}{fd:Qm}{N ps:List Str}{k:Nat}{sp:Sp}(F:Fun K x qual st f fd)(S:Zm N ps (Zj st))(len:∀ vs H Q E,sp vs H Q E->vs.length=ps.length)
 (hbody:∀ (cdv:Qb) (A:QF) (outer:List Env) (s:Qe) (H:Hp) (vs:List V) (Q:VK) (E:XK),Room k (A.deeper (PB qual (Zj st) s.heap.objs.size f cdv))->sp vs H Q E ->
  XY (ZQ (Uz P w base) P w K mg base N qual (Zj st) f cdv A outer s H E) (fun _=>E) ->
  ∃ t,PSs (ZQ (Uz P w base) P w K mg base N qual (Zj st) f cdv A outer s H E) (XB st) t/\t { nx:=fun _ H'=>Q .non H',rt:=Q } (start N vs) H):FnOk P w K mg base (Uz P w base) (k+1) f fd ps sp:=by
 obtain ⟨oc,od,kV,doc,pm,an,cdv,ct,osl,rfl,lk,hcd⟩:=F.ex
 exact ZfX lk hcd S len fun A outer s H vs Q E hr hsp=>hbody cdv A outer s H vs Q E hr hsp Ziy
def XN (ea C:Addr):HO:=.ext fun h=>∃ t:Addr,h.get? ea=some { cls:=.ref C,data:=.fields #[.ref t,.none,.none,.none,.bool false,.none] }
def XW (ea C dx:Addr):HO:=.ext fun h=>∃ t:Addr,h.get? ea=some { cls:=.ref C,dict:=some dx,data:=.fields #[.ref t,.none,.none,.none,.bool false,.none] }
structure XF (K:Qa)(C fI:Addr):Prop where
 xc:ZeA K C=true
 init:Qx K (.ref C) "__init__"=some (some (.ref fI))
 sa:Qx K (.ref C) "__setattr__"=some (some (.builtin "object.__setattr__"))
 nw:Qx K (.ref C) "what"=some none
 fn:SN K (.ref fI)=true
 kp:GO K (.ref C)=true
def ZpH (K:Qa)(ta tv:TE):TS:=fun D σ H=>tv σ H fun y H1=>ta σ H1 fun x H2=>∃ ea C fI,x=.ref ea/\H2 ea=some (XN ea C)/\XF K C fI/\∀ dx,H2 dx=none->dx≠ea->D.nx σ (upd (upd H2 dx (.xd [("what",y)])) ea (XW ea C dx))
section
variable {X:Cx}{o value:Expr}{pos pos':Pos}{ta tv:TE}
theorem ZkP (ha:PE X o ta)(hv:PE X value tv)(hs:To value (some (.Attribute o "what" pos')) pos.line X.env=pure false):PS X (.Assign [.Attribute o "what" pos'] value pos) (ZpH X.K ta tv):=by
 intro pins s σ H D I h
 refine Ps (Zs (hv pins s σ H _ I h) fun u s1 ⟨y,H1,I1,ry,q⟩=>Zs (ha pins s1 σ H1 _ I1 q) fun ov s2 ⟨x,H2,I2,rx,ea,C,fI,ex,hea,xf,q2⟩=>?_) hs
 subst ex
 obtain rfl:ov=Qo ea:=rx
 obtain ⟨⟨t,hx⟩,_,_⟩:=(show ObjOk X.prog X.w H2 s2.heap ea (XN ea C) from I2.hok ea _ hea)
 obtain ⟨nm,qn,N,bs,bm,sn,sub,ab,col,dd,k0,k1,k2,k3,k5,hC,T⟩:=Zag I2.kIn xf.xc
 obtain ⟨hh,g,d,tk,os⟩:=s2
 have hdn:H2 hh.objs.size=none:=I2.hok.fresh (Qh _)
 have hne:hh.objs.size≠ea:=Jl (Qj hx)
 refine Zla T hC (QQ I2.kIn xf.sa) (QQ I2.kIn xf.nw) hx rfl rfl (fun c z=>by cases z) fun h' tk' hx' hns hk=>⟨σ,_,?_,q2 _ hdn hne⟩
 have nea:∀ b,H2 b=none->b≠ea:=fun b e z=>by rw [z,hea] at e;cases e
 have ndx:∀ b ob,hh.get? b=some ob->b≠hh.objs.size:=fun b ob e=>Qw (Qj e)
 refine I2.un (h':=h') (t':=tk') ⟨fun b ob e n _ _=>hk b ob (nea b n) e,fun b ob e n _ _=>⟨ob.slots,hk b ob (nea b n) e⟩,fun b ob e n _=>by rw [Zg (nea b n),Zg (ndx b ob e)];exact n,fun b ob e _=>?_,fun b xs e=>?_,fun b w xs e=>?_,fun b ps e=>?_⟩ fun b w e=>?_
 ·by_cases z:b=ea
  ·rw [z];exact ⟨_,hx'⟩
  ·exact ⟨ob,hk b ob z e⟩
 ·rw [Zg (fun z=>by rw [z,hea] at e;cases e),Zg (Zt e hdn)];exact e
 ·rw [Zg (fun z=>by rw [z,hea] at e;cases e),Zg (Zt e hdn)];exact e
 ·exact ⟨#[],by rw [Zg (fun z=>by rw [z,hea] at e;cases e),Zg (Zt e hdn),e];simp⟩
 ·by_cases z:b=ea
  ·subst z;rw [Zf] at e;cases e
   exact ⟨⟨t,hx'⟩,⟨_,hx'⟩,fun h1 h2 ⟨t,e⟩ k=>⟨t,k _ e⟩⟩
  ·rw [Zg z] at e
   by_cases z2:b=hh.objs.size
   ·subst z2;rw [Zf] at e;cases e
    refine ⟨_,hns,fun f=>?_⟩
    show RelO (GB f [("what",y)]) (if f="what" then some u else none)
    by_cases hf:f="what"
    ·rw [if_pos hf,hf];exact ry
    ·rw [if_neg hf]
     have hb:(f == ("what":Str))=false:=beq_eq_false_iff_ne.mpr hf
     simp only [GB,hb];exact Gw
   ·rw [Zg z2] at e
    refine (I2.hok b w e).stay (fun c u hc q=>?_) (fun c q=>?_) (fun c xs q=>?_)
    ·refine hk c u (fun y=>?_) q
     rcases hc with rfl | hc
     ·exact z y
     ·rw [y,hea] at hc;cases hc
    ·rw [Zg (fun y=>by rw [y,hea] at q;cases q),Zg (Zt q hdn)];exact q
    ·rw [Zg (fun y=>by rw [y,hea] at q;cases q),Zg (Zt q hdn)];exact q
end
def ZjJ (K:Qa):Sp:=fun vs H Q _=>∃ (ea C fI:Addr) (v:V),vs=[.ref ea,v]/\H ea=some (XN ea C)/\XF K C fI/\∀ dx,H dx=none->dx≠ea->Q .non (upd (upd H dx (.xd [("what",v)])) ea (XW ea C dx))
def ZaE (P:Qk)(w:Qv)(K:Qa)(mg:Str->Option Qb)(base:Heap)(k:Nat)(C:Addr)(x:Str):Prop :=
 ∃ fI fd,FnOk P w K mg base ZC k fI fd ["self","what"] (ZjJ K)/\Binds K fd ["self","what"] []/\XF K C fI/\mg x=some (.ref C)
def Znk (C:Addr)(EE:St->XK)(t:TA):TS:=fun _ σ H=>t σ H fun vs H1=>∃ v,vs=[v]/\∀ dx,H1 dx=none->EE σ (.ref C) (some dx) (upd H1 dx (.xd [("what",v)]))
section
variable {X:Cx}{pins:List (Addr×Obj)}{σ:St}{H:Hp}{s:Qe}
def del (H:Hp)(a:Addr):Hp:=fun b=>if b=a then none else H b
theorem Ub {a b:Addr}(h:b≠a):del H a b=H b:=if_neg h
theorem Inv.untrack {a:Addr}{φ:Heap->Prop}(I:Inv X pins σ H s)(e:H a=some (.ext φ))(O:X.Old a):Inv X pins σ (del H a) s:=by
 have off:∀ b,H b=none->del H a b=none:=fun b n=>by unfold del;split;rfl;exact n
 refine ⟨I.ok,I.os,I.bare,⟨I.base.keep,I.base.slot,fun b u q n hx=>off b (I.base.free b u q n hx),I.base.there,fun b xs q=>?_,fun b u xs q=>?_,fun b ps q=>?_⟩,I.loc,I.cell,off _ I.free,fun x c hx=>off _ (I.freeC x c hx),fun p hp=>?_,fun b u q=>?_,I.len⟩
 ·rw [Ub (O.nt q)];exact I.base.tups b xs q
 ·rw [Ub (O.nf q)];exact I.base.frzs b u xs q
 ·rw [Ub (O.nb q)];exact I.base.tbls b ps q
 ·obtain ⟨e1,e2,e3⟩:=I.pin p hp
  exact ⟨e1,off _ e2,e3⟩
 ·by_cases z:b=a
  ·subst z;unfold del at q;rw [if_pos rfl] at q;cases q
  ·rw [Ub z] at q
   exact (I.hok b u q).stay (fun _ _ _ y=>y) (fun c y=>by rw [Ub (fun z=>by rw [z,e] at y;cases y)];exact y) (fun c xs y=>by rw [Ub (fun z=>by rw [z,e] at y;cases y)];exact y)
end
section
variable {X:Cx}{EE:St->XK}{k:Nat}{C:Addr}{x:Str}{np cpos pos:Pos}{e:Expr}{t:TA}
theorem ZaI (W:XY X EE)(D:ZaE X.prog X.w X.K X.mg X.base k C x)(hr:Room (k+1) X.A)(hcalm:X.calm=true)(ha:PA X [e] t)(hg:Gl X x:=by rfl)(hdb:(x == ("__debug__":Str))=false:=by decide)
 (he:QE [e] X.env=(false,eval e X.env)::QE [] X.env:=by rfl) (hpl:(Jg cpos (QE [] X.env)).any (·.1)=false:=by rfl):PS X (.Raise (some (.Call (.Name x np) [e] [] cpos)) none pos) (Znk C EE t):=by
 obtain ⟨fI,fd,F,hb,xf,hm⟩:=D
 intro pins s σ H D I h
 rw [arm_exec_Raise]
 obtain ⟨nm,qn,N,bs,bm,sn,sub,ab,col,dd,k0,k1,k2,k3,k5,hCb,T⟩:=Zag I.ok.mod.kin xf.xc
 refine Qg (Gz (Zly (C:=C) (nm:=nm) (q:=qn) (N:=N) (bs:=bs) (sn:=sn) (sub:=sub) (ab:=ab) (col:=col) (dd:=dd) (k0:=k0) (k1:=k1) (k2:=k2) (k3:=k3) (k5:=k5) T (I.ok.hd hcalm) (Qg ?_)))
 refine QS (Q:=fun v s₁=>∃ e oe vs,v=.ref e/\s₁.heap.get? C=some (GZ nm qn C N bs bm true sn sub ab col dd k0 k1 k2 k3 k5 "ValueError.__new__")/\s₁.heap.get? e=some oe/\oe.cls=.ref C/\oe.data=.fields vs/\vs[1]?=some .none/\X.xe (.ref e) s₁) ?_ (fun v s1 h1=>Qg (Gz (Qp h1))) fun _ _ x=>x
 refine QV (WY I hg hm ?_ hdb)
 refine JW (h₀:=X.base) I.ok.mod.kin xf.kp (Zs (ha cpos pins s σ H _ I h) fun us s1 ⟨vs,H1,I1,r,v,ev,q⟩=>⟨I1.kIn,?_⟩) he hpl
 subst ev
 obtain ⟨u,rfl,ru⟩:=Yt r
 obtain ⟨hh,g,d,tk,os⟩:=s1
 have hC1:=I1.bk _ _ hCb
 obtain ⟨oI,hoI,hoc⟩:∃ oI,hh.get? fI=some oI/\oI.cls=.type "function":=by
  obtain ⟨oI,ho,hc⟩:=QR.mp (show (X.K.lookup fI).map (·.cls)=some (.type "function") from beq_iff_eq.mp xf.fn)
  exact ⟨oI,I1.kIn _ _ ho,hc⟩
 refine Zni T hC1 (QQ I1.kIn xf.init) hoI hoc (fun h' ea hm' hle=>?_) (by show 1<=Qi;decide)
 obtain ⟨t0,h0,h1,h2⟩:=hm'.there
 have hH1:H1 ea=none:=I1.hok.fresh hle
 have I2:Inv X pins σ (upd H1 ea (XN ea C)) ⟨h',g,d,tk,os⟩:=I1.laid (a:=ea) (o:=XN ea C) (h':=h') (t':=tk) hm'.keeps hle ⟨⟨t0,h0⟩,⟨_,h0⟩,fun h1 h2 ⟨t,e⟩ k=>⟨t,k _ e⟩⟩
 have hsp:ZjJ X.K [.ref ea,v] (upd H1 ea (XN ea C)) (fun w H'=>w=.non/\∃ dx,H1 dx=none/\dx≠ea/\H'=upd (upd (upd H1 ea (XN ea C)) dx (.xd [("what",v)])) ea (XW ea C dx)) E0 :=
  ⟨ea,C,fI,v,rfl,Zf,xf,fun dx h1 h2=>⟨rfl,dx,by rw [Zg h2] at h1;exact h1,h2,rfl⟩⟩
 have r2:Vals [V.ref ea,v] [Qo ea,u]:=.cons rfl (.cons ru .nil)
 refine JF (GA (F.run _ X.stack _ _ ⟨[.ref ea,u],[]⟩ [.ref ea,u] _ _ E0 (hr.make C [u] []) (I2.env0.make C [u] []) (hb _ [.ref ea,u] I2.kIn rfl) r2 hsp) fun r s' hq=>?_)
 cases r with
 | error e=>exact hq.elim
 | ok fl =>
  cases fl with
  | next=>exact QN hq
  | brk=>exact QN hq
  | cont=>exact QN hq
  | ret u' =>
   obtain ⟨w,H3,I3,rw',⟨ew,dx,hdx,hde,eH⟩⟩:=I2.after hq
   subst ew eH
   refine ⟨rw',?_⟩
   have at3:upd (upd (upd H1 ea (XN ea C)) dx (.xd [("what",v)])) ea (XW ea C dx) ea=some (XW ea C dx):=Zf
   obtain ⟨⟨t3,hx3⟩,_,_⟩:=(show ObjOk X.prog X.w _ s'.heap ea (XW ea C dx) from I3.hok ea _ at3)
   have I4:=I3.untrack at3 (I1.old hH1)
   have eq4:del (upd (upd (upd H1 ea (XN ea C)) dx (.xd [("what",v)])) ea (XW ea C dx)) ea=upd H1 dx (.xd [("what",v)]):=by
    funext b
    by_cases z:b=ea
    ·subst z;unfold del;rw [if_pos rfl,Zg (Gv hde)];exact hH1.symm
    ·rw [Ub z,Zg z]
     by_cases z2:b=dx
     ·subst z2;rw [Zf,Zf]
     ·rw [Zg z2,Zg z2,Zg z]
   rw [eq4] at I4
   refine ⟨ea,_,_,rfl,I3.bk _ _ hCb,hx3,rfl,rfl,rfl,?_⟩
   refine W pins σ H1 _ ⟨hh,g,d,tk,os⟩ s' ea C dx none I1 I4 (.inl rfl) ⟨?_,by rw [Zg (Gv hde)];exact hH1,hle,_,_,hx3,rfl,rfl,rfl,rfl⟩ (q dx hdx)
   cases qb:X.base.get? ea with
   | none=>rfl
   | some ob=>have:=I1.bk _ _ qb;rw [hm'.new] at this;cases this
end
end L2
namespace L2
open PySem PySem.Spec PyProof.Rows
open PySem.Builtin PySem.Builtin.ObjectAttr
section
variable {prog:Qk}{w:Qv}{A:QF}{E:Qb->Qe->Prop}{h:Heap}{g:Array OL}{d:Drawn}{t:Nat}{os:OsState}
variable {nm q:Str}{C N a dx:Addr}{bs bm:List Qb}{sn:List Str}{sub:List Qb}{ab:Bool}{col:Option Bool}{dd:Option Addr}{k0 k1 k2 k3 k5:Option Qb}{name:Str}{v:Qb}{o:Obj}{vs:Array Qb}{mA:Str->Option Qb}
abbrev Zbx (h:Heap)(nm q:Str)(C N:Addr)(bs bm:List Qb)(sn:List Str)(sub:List Qb)(ab:Bool)(col:Option Bool)(dd:Option Addr)(k0 k1 k2 k3 k5:Option Qb):Prop:=h.get? C=some (GZ nm q C N bs bm true sn sub ab col dd k0 k1 k2 k3 k5 "ValueError.__new__")
theorem ZfK {M:Oh}{nameV:Qb}{Q:Unit->Qe->Prop}(T:VT bm)(hC:Zbx h nm q C N bs bm sn sub ab col dd k0 k1 k2 k3 k5)
 (hx:h.get? a=some o) (hc:o.cls=.ref C) (hq:Q () ⟨h,g,d,t,os⟩):Qq M A (Gx "BaseException.__getattribute__" ⟨[.ref a,nameV],[]⟩) Q E ⟨h,g,d,t,os⟩:=by
 have hk:builtinKind "BaseException.__getattribute__"=some .slot:=by decide +kernel
 have hsplit:splitId "BaseException.__getattribute__"=some ("BaseException","__getattribute__"):=by decide +kernel
 have hcB:(Qo C::bm).contains (.type "BaseException")=true:=by rw [contains_cons,T.has Tl.hasBase];rfl
 have ha:=PySem.F.args_bexc_ga (.ref a) nameV
 simp only [Gx,hk,hsplit]
 refine Qg ?_
 ·unfold isInstance
  repeat (first | (with_reducible refine QI hx ?_;rw [hc]) | (with_reducible refine Gs hC ?_;rw [hcB]) | wp_step)
  exact hq
theorem x_by {tk:Tok}{fill expr:Bool}{Q:Qb->Qe->Prop}(T:VT bm)(hC:Zbx h nm q C N bs bm sn sub ab col dd k0 k1 k2 k3 k5)
 (LG:GK (Qt prog w) h (QY (.ref C) "__getattribute__") (some (.builtin "BaseException.__getattribute__"))) (LA:GK (Qt prog w) h (QY (.ref C) "__getattr__") none)
 (hx:h.get? a=some o) (hc:o.cls=.ref C) (hh:handedOut v=pure v)
 (he:∀ (A:QF) (R:RV->Qe->Prop) (E:Qb->Qe->Prop),R (.done (.ret v)) ⟨h,g,d,t,os⟩->Qq (Qt prog w) A (Jy.«object.__getattribute__» ⟨[.ref a,.str name tk],[]⟩) R E ⟨h,g,d,t,os⟩) (hq:Q v ⟨h,g,d,t,os⟩) :
 Qq (Qt prog w) A (getAttrBy (.ref a) (.str name tk) fill expr) Q E ⟨h,g,d,t,os⟩:=by
 have FB:=Tl
 have f3:=FB.ga.bind (.ref a)
 have hx0:(expr&&onTheHeap (JS "BaseException.__getattribute__"))=false:=by cases expr<;>rfl
 have hx2:(JS "BaseException.__getattribute__" == JS "object.__getattribute__")=false:=by decide +kernel
 have hx1:(onTheHeap (Qo C)&&JS "BaseException.__getattribute__" == JS "object.__getattribute__")=false:=by rw [hx2];rfl
 have LG':∀ {A:QF} {Q:Option Qb->Qe->Prop} {E:Qb->Qe->Prop},Q (some (.builtin "BaseException.__getattribute__")) ⟨h,g,d,t,os⟩->Qq (Qt prog w) A (QY (.ref C) "__getattribute__") Q E ⟨h,g,d,t,os⟩:=fun q=>LG _ _ _ _ (fun _ _ e=>e) q
 have LA':∀ {A:QF} {Q:Option Qb->Qe->Prop} {E:Qb->Qe->Prop},Q none ⟨h,g,d,t,os⟩->Qq (Qt prog w) A (QY (.ref C) "__getattr__") Q E ⟨h,g,d,t,os⟩:=fun q=>LA _ _ _ _ (fun _ _ e=>e) q
 repeat (any_goals (first | assumption | (with_reducible refine QI hx ?_;rw [hc]) | with_reducible refine LG' ?_ | with_reducible refine LA' ?_ | wp_step))
 refine GY FB.ga.plain PySem.F.entry_bexc_ga (ZfK T hC hx hc (he _ _ _ ?_))
 show Qq _ _ (handedOut v) _ _ _
 rw [hh]
 exact Qp hq
theorem ZmT {tk:Tok}{Q:RV->Qe->Prop}(hC:Zbx h nm q C N bs bm sn sub ab col dd k0 k1 k2 k3 k5)(LN:GK (Qt prog w) h (QY (.ref C) name) none)
 (hx:h.get? a=some o) (hc:o.cls=.ref C) (hdi:o.dict=some dx) (hd:o.data=.fields vs) (hns:h.Ns1 dx mA) (hv:mA name=some v) (hq:Q (.done (.ret v)) ⟨h,g,d,t,os⟩) :
 Qq (Qt prog w) A (Jy.«object.__getattribute__» ⟨[.ref a,.str name tk],[]⟩) Q E ⟨h,g,d,t,os⟩:=by
 have LN':∀ {A:QF} {Q:Option Qb->Qe->Prop} {E:Qb->Qe->Prop},Q none ⟨h,g,d,t,os⟩->Qq (Qt prog w) A (QY (.ref C) name) Q E ⟨h,g,d,t,os⟩:=fun q=>LN _ _ _ _ (fun _ _ e=>e) q
 unfold Jy.«object.__getattribute__»
 repeat (first | (with_reducible refine QI hx ?_;rw [hc]) | (with_reducible refine LN' ?_) | wp_step)
 split
 ·rename_i c hcd
  rw [hd] at hcd;cases hcd
 unfold instanceDict
 repeat (first | (with_reducible refine QI hx ?_;rw [hc]) | with_reducible refine QI hC ?_ | wp_step)
 rw [hdi]
 repeat (first | (with_reducible refine wpAny_nsGet hns.ns ?_;rw [hv]) | wp_step)
 exact hq
theorem ZeL {R:Oz->Qe->Prop}(T:VT bm)(hC:Zbx h nm q C N bs bm sn sub ab col dd k0 k1 k2 k3 k5)(hx:h.get? a=some o)(hc:o.cls=.ref C)(hq:R (.ok (.ret (.ref C))) ⟨h,g,d,t,os⟩) :
 JU (Qt prog w) A (.call (.builtin "getset_descriptor.__get__") ⟨[.builtin "object.__class__",.ref a,.ref C],[]⟩) R ⟨h,g,d,t,os⟩:=by
 have hT5:(⟨h,g,d,t,os⟩:Qe).TypeIs (.builtin "object.__class__") "getset_descriptor":=JB
 have hcB:(Qo C::bm).contains (.type (".".intercalate ("object.__class__".cutAt '.').dropLast))=true:=by
  rw [PySem.F.owner_object_class,contains_cons,T.has (b:=true) (by decide +kernel)];rfl
 refine GY PySem.F.slot_gs_get.plain PySem.F.entry_gs_get (PySem.F.slot_gs_get.check _ _ _ _ _ _ _ _ hT5 (PySem.F.args_gs_get _ _ _) ?_)
 repeat (any_goals (first | assumption | (with_reducible refine QI hx ?_;rw [hc]) | (with_reducible refine Gs hC ?_;rw [hcB]) | wp_step))
 refine ⟨JY _ (by decide +kernel),Tc PySem.F.entry_object_class ?_⟩
 repeat (any_goals (first | assumption | (with_reducible refine QI hx ?_;rw [hc]) | wp_step))
theorem ZkT {tk:Tok}{Q:RV->Qe->Prop}(T:VT bm)(hC:Zbx h nm q C N bs bm sn sub ab col dd k0 k1 k2 k3 k5)(LC:GK (Qt prog w) h (QY (.ref C) "__class__") (some (.builtin "object.__class__")))
 (hx:h.get? a=some o) (hc:o.cls=.ref C) (hq:Q (.done (.ret (.ref C))) ⟨h,g,d,t,os⟩) :
 Qq (Qt prog w) A (Jy.«object.__getattribute__» ⟨[.ref a,.str "__class__" tk],[]⟩) Q E ⟨h,g,d,t,os⟩:=by
 have LC':∀ {A:QF} {Q:Option Qb->Qe->Prop} {E:Qb->Qe->Prop},Q (some (.builtin "object.__class__")) ⟨h,g,d,t,os⟩->Qq (Qt prog w) A (QY (.ref C) "__class__") Q E ⟨h,g,d,t,os⟩:=fun q=>LC _ _ _ _ (fun _ _ e=>e) q
 have hT5:(⟨h,g,d,t,os⟩:Qe).TypeIs (.builtin "object.__class__") "getset_descriptor":=JB
 have f5:=JB
 have f6:=PySem.F.slot_gs_get.lookup
 have f7:=PySem.F.slot_gs_set.lookup
 repeat (any_goals (first | assumption | (with_reducible refine QI hx ?_;rw [hc]) | (with_reducible refine LC' ?_) | wp_step))
 refine ZeL T hC hx hc ?_
 repeat (any_goals (first | assumption | wp_step))
end
structure XG (K:Qa)(C:Addr):Prop where
 xc:ZeA K C=true
 nw:Qx K (.ref C) "what"=some none
 ga:Qx K (.ref C) "__getattribute__"=some (some (.builtin "BaseException.__getattribute__"))
 gh:Qx K (.ref C) "__getattr__"=some none
 gc:Qx K (.ref C) "__class__"=some (some (.builtin "object.__class__"))
theorem ZdQ {K:Qa}{C ea:Addr}(G:XG K C):PySem.W.KitX K (.ref ea) (.ref C) (fun h=>∃ o,h.get? ea=some o/\o.cls=.ref C) where
 ty:=fun M h _ p=>by obtain ⟨o,h1,h2⟩:=p;exact h2 ▸ (NE h1).andThen .now
 it:=fun M h X p=>by
  obtain ⟨nm,qn,N,bs,bm,sn,sub,ab,col,dd,k0,k1,k2,k3,k5,hC,T⟩:=Zag X G.xc
  intro A' Q' E' s' k q
  unfold isType loadHead
  exact Qg (wpAny_loadPart (k _ _ hC) (Qp q))
 ne:=fun h tp dd its n sl X htp=>by
  obtain ⟨nm,qn,N,bs,bm,sn,sub,ab,col,dd,k0,k1,k2,k3,k5,hC,T⟩:=Zag X G.xc
  refine Bool.eq_false_iff.mpr fun q=>?_
  have e:C=tp:=Value.ref.inj (beq_iff_eq.mp q)
  subst e
  have z:=congrArg Obj.cls (QG (hC.symm.trans htp))
  exact absurd (Value.type.inj z) (by decide)
 ca:=fun {prog w A E Q s} X p k=>by
  obtain ⟨nm,qn,N,bs,bm,sn,sub,ab,col,dd,k0,k1,k2,k3,k5,hC,T⟩:=Zag X G.xc
  obtain ⟨o,h1,h2⟩:=p
  obtain ⟨h,g,d,t,os⟩:=s
  have by':∀ {tk:Tok} {Q:Qb->Qe->Prop} {E:Qb->Qe->Prop} {A:QF},Q (.ref C) ⟨h,g,d,t+1,os⟩->Qq (Qt prog w) A (getAttrBy (.ref ea) (.str "__class__" tk) false) Q E ⟨h,g,d,t+1,os⟩:=fun q =>
   x_by T hC (QQ X G.ga) (QQ X G.gh) h1 h2 rfl (fun A R E r=>ZkT T hC (QQ X G.gc) h1 h2 r) q
  unfold getAttr? getAttrBy?
  repeat (any_goals (first | assumption | with_reducible apply by' | wp_step))
end L2
namespace L2
open PySem PySem.Spec PyProof.Rows
def Zpa (K:Qa)(ta:TE):TE:=fun σ H Q=>ta σ H fun x H1=>∃ (ea C dx:Addr) (fs:List (Str×V)) (v:V),x=.ref ea/\H1 ea=some (XO ea C dx)/\H1 dx=some (.xd fs)/\XG K C/\fs.lookup ("what":Str)=some v/\Q v H1
def TyX (K:Qa)(H:Hp)(x:V)(t:Qb):Prop:=WD K H x t\/∃ ea C dx,x=.ref ea/\t=.ref C/\H ea=some (XO ea C dx)/\XG K C
def rIsi (K:Qa):List V->Hp->VK->Prop:=fun xs H Q=>∃ x c t b,xs=[x,c]/\TyX K H x t/\((∃ D,c=.ref D/\Tw K t (.ref D)=some b)\/(∃ T,c=.ty T/\Tw K t (.type T)=some b))/\Q (.bl b) H
def Zoz (K:Qa):List V->Hp->VK->Prop:=fun xs H Q=>∃(ea C dx tp:Addr)(Ds:List Addr)(b:Bool),xs=[.ref ea,.ref tp]/\H ea=some (XO ea C dx)/\XG K C/\H tp=some (.tup (Ds.map V.ref))/\PySem.W.kitAny K (.ref C) (Ds.map Qo)=some b/\Q (.bl b) H
section
variable {X:Cx}{e:Expr}{pos:Pos}{ta:TE}
theorem Zlm (he:PE X e ta)(hb:Jq e "what" X.env (eval e X.env)=eval e X.env):PE X (.Attribute e "what" pos) (Zpa X.K ta):=by
 intro pins s σ H Q I h
 refine Zfz hb (Zs (he pins s σ H _ I h) fun u s1 ⟨x,H1,I1,rx,ea,C,dx,fs,v,ex,hea,hdx,G,l,q⟩=>?_)
 subst ex
 obtain rfl:u=Qo ea:=rx
 obtain ⟨⟨oe,vs,he1,he2,he3,he4⟩,_,_⟩:=(show ObjOk X.prog X.w H1 s1.heap ea (XO ea C dx) from I1.hok ea _ hea)
 obtain ⟨mA,hns,hr⟩:=(show ObjOk X.prog X.w H1 s1.heap dx (.xd fs) from I1.hok dx _ hdx)
 obtain ⟨u,hu,ru⟩:=RelO.some_of (v:=v) (o:=mA "what") (by rw [<- l];exact hr "what")
 obtain ⟨nm,qn,N,bs,bm,sn,sub,ab,col,dd,k0,k1,k2,k3,k5,hC,T⟩:=Zag I1.kIn G.xc
 have hK:=I1.kIn
 have I2:=I1.tok (s1.toks+1)
 obtain ⟨hh,g,d,tk,os⟩:=s1
 refine Qg (wpAny_mkText ?_)
 exact x_by T hC (QQ hK G.ga) (QQ hK G.gh) he1 he2 (PySem.W.handedOut_of (ZcA ru)) (fun A R E r=>ZmT hC (QQ hK G.nw) he1 he2 he3 he4 hns hu r) ⟨v,H1,I2,ru,q⟩
theorem Zfs {pins:List (Addr×Obj)}{σ:St}{H:Hp}{s:Qe}{A:QF}{E:Qb->Qe->Prop}{Q:Qb->Qe->Prop}{c:Qb}{b:Bool}{x:V}{u t:Qb}(I:Inv X pins σ H s)(rx:RelV x u)(ty:TyX X.K H x t)(e:Tw X.K t c=some b)(h:∀ tk,Q (.bool b) { s with toks:=tk }) :
 Qq (Qt X.prog X.w) A (call (.builtin "isinstance") [u,c]) Q E s:=by
 rcases ty with ty | ⟨ea,C,dx,rfl,rfl,hea,G⟩
 ·exact Zhb I rx ty e h
 ·cases (show u=Qo ea from rx)
  obtain ⟨⟨oe,vs,he1,he2,_⟩,_,_⟩:=(show ObjOk X.prog X.w H s.heap ea (XO ea C dx) from I.hok ea _ hea)
  exact QW (ZdQ G) I.kIn ⟨oe,he1,he2⟩ e (fun z=>nomatch z) h
theorem Yy:Yz X (.builtin "isinstance") (rIsi X.K):=by
 intro pins s σ H xs us Q I r h
 obtain ⟨x,c,t,b,rfl,ty,hc,q⟩:=h
 obtain ⟨u,u',rfl,ru,ru'⟩:=Zdi r
 rcases hc with ⟨D,rfl,e⟩ | ⟨T,rfl,e⟩
 ·cases (show u'=Qo D from ru')
  exact Zfs I ru ty e fun tk=>⟨.bl b,H,I.tok tk,rfl,q⟩
 ·cases (show u'=Ou T from ru')
  exact Zfs I ru ty e fun tk=>⟨.bl b,H,I.tok tk,rfl,q⟩
theorem ZbE:∀{Ds:List Addr}{us:List Qb},Vals (Ds.map V.ref) us->us=Ds.map Qo
 | [],_,h=>by cases h;rfl
 | D::Ds,_,h=>by
  cases h with
  | cons r t=>rw [ZbE t,show _=Qo D from r];rfl
theorem ZcD:Yz X (.builtin "isinstance") (Zoz X.K):=by
 intro pins s σ H xs us Q I r h
 obtain ⟨ea,C,dx,tp,Ds,b,rfl,hea,G,htp,e,q⟩:=h
 obtain ⟨u,u',rfl,ru,ru'⟩:=Zdi r
 cases (show u=Qo ea from ru)
 cases (show u'=Qo tp from ru')
 obtain ⟨⟨oe,vs,he1,he2,_⟩,_,_⟩:=(show ObjOk X.prog X.w H s.heap ea (XO ea C dx) from I.hok ea _ hea)
 obtain ⟨_,its,rv,p⟩:=(show ObjOk X.prog X.w H s.heap tp (.tup (Ds.map V.ref)) from I.hok tp _ htp)
 obtain ⟨⟨oc,odi,oda,osl⟩,h1,h2,n,h3⟩:=p
 dsimp only at h2 h3
 subst h2 h3
 rw [ZbE rv] at h1
 exact PySem.W.kia_tup (ZdQ G) I.kIn ⟨oe,he1,he2⟩ h1 e (fun z=>nomatch z) fun tk=>⟨.bl b,H,I.tok tk,rfl,q⟩
end
section
variable {X:Cx}
end
def Zgy (X:Cx)(d:Addr):Prop:=∀ o u,X.H₀ d≠some (.frz o u)
section
variable {X:Cx}{pins:List (Addr×Obj)}{σ:St}{H:Hp}{s:Qe}{d:Addr}{o:Obj}{kvs:List (Zn×V)}
theorem Inv.freeze (I:Inv X pins σ H s)(e:H d=some (.dK kvs))(ho:s.heap.get? d=some o):Inv X pins σ (upd H d (.frz o (.dK kvs))) s :=
 I.write (x:=d) (e:=d) (o:=.frz o (.dK kvs)) (t':=s.toks) (h':=s.heap) (by rw [e];trivial) (.inl rfl) (fun b u _ q=>q) ⟨o,ho⟩ ⟨ho,show ObjOk X.prog X.w H s.heap d (.dK kvs) from I.hok d _ e⟩
theorem Inv.nofz (I:Inv X pins σ H s)(e:H d=some (.dK kvs)):Zgy X d:=fun o u z=>by
 have:=I.base.frzs d o u z
 rw [e] at this;cases this
theorem Inv.melt (I:Inv X pins σ H s)(e:H d=some (.frz o (.dK kvs)))(nf:Zgy X d):Inv X pins σ (upd H d (.dK kvs)) s:=by
 have hne:∀ {b},H b=none->b≠d:=fun n z=>by rw [z,e] at n;cases n
 refine ⟨I.ok,I.os,I.bare,⟨I.base.keep,I.base.slot,fun b ob q n hx=>?_,I.base.there,fun b xs q=>?_,fun b ob u q=>?_,fun b ps q=>?_⟩,I.loc,I.cell,?_,fun x c q=>?_,fun p hp=>?_,fun b u q=>?_,I.len⟩
 ·have:=I.base.free b ob q n hx
  rw [Zg (hne this)];exact this
 ·have:=I.base.tups b xs q
  rw [Zg (fun z=>by rw [z,e] at this;cases this)];exact this
 ·rw [Zg (fun z=>by rw [z] at q;exact nf _ _ q)];exact I.base.frzs b ob u q
 ·obtain ⟨more,this⟩:=I.base.tbls b ps q
  exact ⟨more,by rw [Zg (fun z=>by rw [z,e] at this;cases this)];exact this⟩
 ·rw [Zg (hne I.free)];exact I.free
 ·have:=I.freeC x c q
  rw [Zg (hne this)];exact this
 ·obtain ⟨p1,p2,p3⟩:=I.pin p hp
  exact ⟨p1,by rw [Zg (hne p2)];exact p2,p3⟩
 ·by_cases z:b=d
  ·subst z
   rw [Zf] at q
   cases q
   exact (show ObjOk X.prog X.w H s.heap b (.dK kvs) from (show ObjOk X.prog X.w H s.heap b (.frz o (.dK kvs)) from I.hok b _ e).2)
  ·rw [Zg z] at q
   exact (I.hok b u q).stay (fun _ _ _ q=>q) (fun c r=>by rw [Zg (fun z=>by rw [z,e] at r;cases r)];exact r) fun c xs r=>by rw [Zg (fun z=>by rw [z,e] at r;cases r)];exact r
end
def Itd (o:Obj)(d:Addr)(kvs:List (Zn×V)):It :=
 ⟨fun i H=>H d=some (.frz o (.dK kvs))/\i < kvs.length,fun i H v H'=>H'=H/\∃ p,kvs[i]?=some p/\v=kV p.1,fun i H=>H d=some (.frz o (.dK kvs))/\kvs.length<=i⟩
theorem Zel {P:Qk}{w:Qv}{H:Hp}{h:Heap}{d:Addr}{o:Obj}{kvs:List (Zn×V)}{es:Array DictEntry}{ep:Nat}(ok:HOk P w H h)(hd:o.data=.dict es ep)(e:H d=some (.frz o (.dK kvs))):∃ vs,KV kvs vs/\Heap.DictAt (ZN P w) h d vs ep:=by
 obtain ⟨hg,hz,lo,vs,kv,o',es',ep',ho,r1,r2,r3,r4,r5⟩:=(show ObjOk P w H h d (.frz o (.dK kvs)) from ok d _ e)
 rw [hg] at ho
 cases ho
 rw [hd] at r2
 cases r2
 exact ⟨vs,kv,o,es,hg,r1,hd,r3,r4,r5⟩
theorem Zil {P:Qk}{w:Qv}{K:Qa}{tg:Expr}{o:Obj}{es:Array DictEntry}{ep:Nat}{kvs:List (Zn×V)}(hd:o.data=.dict es ep)(d it:Addr):VG P w K tg (Itd o d kvs) [it] it (fun i h=>h.IsKeyIter it d i kvs.length ep) where
 mem:=by simp
 obj:=fun i h st b hb=>by
  have e:b=it:=by simpa using hb
  subst e
  obtain ⟨o,e,c,d⟩:=st
  exact ⟨o,e,fun v z=>by rw [d] at z;cases z⟩
 keep:=fun i h h' st k=>st.at fun o e=>k it (by simp) o e
 item:=by
  intro X hP hw hK hc i pins s σ H E I hf st hg
  subst hP hw hK
  obtain ⟨e,hi⟩:=hg
  obtain ⟨vs,kv,D⟩:=Zel I.hok hd e
  have hlen:kvs.length=vs.length:=Jb kv
  obtain ⟨f0,f1,f2,f3,f4,f5⟩:=hf it (by simp)
  have hv:=getElem?_eq_getElem (l:=vs) (i:=i) (by omega)
  generalize vs[i]=pv at hv
  obtain ⟨pk,px⟩:=pv
  obtain ⟨vv,hkv,_⟩:=Zid kv hv
  refine wpAny_pyNext_dict_item (hlen ▸ st) D hv fun key h' hk st' sb=>?_
  have I1:Inv X pins σ H { s with heap:=h' }:=I.turned (t':=s.toks) (fun b o hb e=>(sb.2 b hb).trans e) f0 f1 f3 f4 f5
  have rk:RelV (kV pk) key:=by
   rw [Zbz] at hk
   rcases Yh hk with ⟨j,t,e1,e2⟩ | ⟨y,t,e1,e2⟩
   ·rw [e1,e2];exact ⟨t,rfl⟩
   ·rw [e1,e2];exact ⟨t,rfl⟩
  obtain ⟨o9,e9,c9,d9⟩:=id st'
  exact ⟨key,rfl,Zdx (s:={ s with heap:=h' }) e9 c9 d9 (by decide) ⟨_,H,I1,rk,⟨rfl,_,hkv,rfl⟩,hlen ▸ st',fun b hb=>(hf b hb).1⟩⟩
 done:=by
  intro X hP hw hK hc i pins s σ H E I hf st hg
  subst hP hw hK
  obtain ⟨e,hi⟩:=hg
  obtain ⟨vs,kv,D⟩:=Zel I.hok hd e
  have hlen:kvs.length=vs.length:=Jb kv
  obtain ⟨f0,f1,f2,f3,f4,f5⟩:=hf it (by simp)
  exact wpAny_pyNext_dict_end (I.ok.hd hc) (hlen ▸ st) D (List.getElem?_eq_none (by omega)) fun h' eb=>⟨rfl,I.turned (t':=s.toks) (fun b o hb e=>eb b o hb e) f0 f1 f3 f4 f5⟩
 self:=fun _ _ _ _ _ st h=>wpAny_pyIter_keyiter st h
def Zoy (X:Cx)(td:TE):TI:=fun σ H R=>td σ H fun x H1=>∃ d kvs,x=.ref d/\H1 d=some (.dK kvs)/\∀ o,Zgy X d->R (Itd o d kvs) (upd H1 d (.frz o (.dK kvs)))
section
variable {X:Cx}{tg:Expr}
theorem Zlb {l:Expr}{tl:TE}(hl:PE X l tl):PI X tg l (Zoy X tl):=by
 intro pins s σ H R I h
 refine Zs (hl pins s σ H _ I h) fun v s1 ⟨x,H1,I1,r1,q1⟩=>?_
 obtain ⟨d,kvs,e,ed,q⟩:=q1
 subst e
 cases r1
 obtain ⟨hz,lo,vs,kv,o,es,ep,ho,r1,r2,r3,r4,r5⟩:=ZbJ I1.hok ed
 have hlen:kvs.length=vs.length:=Jb kv
 refine wpAny_pyIter_dict (knd:=ZN X.prog X.w) (kvs:=vs) (ep:=ep) lo ⟨o,es,ho,r1,r2,r3,r4,r5⟩ ?_
 have I2:=I1.freeze ed ho
 refine ⟨s1.heap.objs.size,[s1.heap.objs.size],_,_,_,rfl,I2.kept (t':=s1.toks) fun b o e=>Qd _ e,Zil (kvs:=kvs) r2 d _,⟨_,Qs _ rfl,rfl,by rw [hlen];rfl⟩,fun b hb=>?_,q o (I1.nofz ed)⟩
 have e:b=s1.heap.objs.size:=by simpa using hb
 subst e
 exact I2.fpOk (Qh _) (I2.hok.fresh (Qh _))
end
end L2
namespace L2
open PySem PySem.W PySem.Spec PyProof.Rows
section
variable {X:Cx}
end
end L2
namespace L2
open PySem
end L2
namespace L2
open PySem PySem.W PySem.Spec PyProof.Rows
section
variable {X:Cx}
end
end L2
namespace L2
open PySem PySem.Spec PyProof.Rows
end L2
namespace L2
open PySem PySem.W PySem.Spec PyProof.Rows
section
variable {X:Cx}
end
end L2
namespace L2
open PySem PySem.Spec PyProof.Rows
section
variable {X:Cx}
end
end L2
namespace L2
open PySem PySem.W PySem.Spec PyProof.Rows
def WM (ts:List (Pos×Addr)):List Value:=ts.flatMap fun p=>[Gf p.1.line,Gf p.1.col,.ref p.2]
def LamsAt (H:Hp)(Pl:Addr)(qual:Str):Prop:=∃ ts:List (Pos×Addr),H Pl=some (.tbl (WM ts).toArray)/\∀ p∈ts,H p.2=some (.ext (Ua p.2 qual))
theorem Zez:∀ ts,TriplesOk (WM ts)
 | []=>trivial
 | p::r=>by
  show TriplesOk (Gf p.1.line::Gf p.1.col::.ref p.2::WM r)
  exact Zez r
theorem ZcJ {pos:Pos}{v:Qb}:∀{ts:List (Pos×Addr)},Nu pos (WM ts)=some v->∃ p∈ts,v=.ref p.2
 | [],h=>by cases h
 | p :: r,h=>by
  have h:(if (p.1.line:Int) == pos.line&&(p.1.col:Int) == pos.col then some (Qo p.2) else Nu pos (WM r))=some v:=h
  split at h
  ·cases h;exact ⟨p,mem_cons_self ..,rfl⟩
  ·obtain ⟨q,hq,e⟩:=ZcJ h
   exact ⟨q,mem_cons_of_mem _ hq,e⟩
theorem Zlu (ts:List (Pos×Addr))(pos:Pos)(c:Addr):WM (ts++[(pos,c)])=WM ts++[Gf pos.line,Gf pos.col,.ref c]:=by
 unfold WM;rw [List.flatMap_append];rfl
section
variable {X:Cx}{pins:List (Addr×Obj)}{σ:List (Option V)}{H:Hp}{s:Qe}
theorem Zjk {A:QF}{E:Qb->Qe->Prop}{Q:Qb->Qe->Prop}{c Pl:Addr}{args:RP}{body:Expr}{sc:Scope}{lpos:Pos}(I:Inv X pins σ H s)(hcode:X.env.code=.ref c)(C:Sy X.K c Pl=true)(hBm:WE X.base X.mg)(hL:LamsAt H Pl (X.env.qual++"<lambda>"))
 (hdef:defaultsOf args X.env=([],[])) (hfree:∀ y∈sc.names,y.2=.free->∃ c,X.env.cells.lookup y.1=some c)
 (h:∀ (q:Addr) (H':Hp) (s':Qe) (pm cdv ct:Qb) (cl:List (Str×Addr)),Inv X pins σ H' s'->Grown Pl H H'->LamsAt H' Pl (X.env.qual++"<lambda>")->(∀ y c,cl.lookup y=some c->X.env.cells.lookup y=some c)->(∀ y∈sc.names,y.2=.free->cl.lookup y.1≠none)->H' q=none->s.heap.objs.size<=q ->
  s'.heap.get? q=some { cls:=.type "function",data:=.func (OG "<lambda>" (X.env.qual++"<lambda>") args body sc cl pm cdv ct) }->(∃ cc,cdv=.ref cc/\H' cc=some (.ext (Ua cc (X.env.qual++"<lambda>"))))->Q (.ref q) s') :
 Qq (Qt X.prog X.w) A (eval (.Lambda args body sc lpos) X.env) Q E s:=by
 refine kla_eval hdef ?_
 obtain ⟨cl,hcl,cl1,cl2⟩:=Vp hfree
 have hg:=I.mod.glob.keeps I.bk
 have CH:=NL I.kIn C
 obtain ⟨ts,e,ec⟩:=hL
 have hP:s.heap.get? Pl=some (Nr (WM ts).toArray):=I.hok Pl _ e
 have bmAt:s.heap.BuiltinsAt X.mg Pl/\Ql≠Pl:=by
  obtain ⟨bm,ob,b1,b2,b3,b4,b5,b6⟩:=hBm
  have b3':=I.bk _ _ b3
  have hmg:Ql≠Pl:=fun z=>by
   obtain ⟨o,es,ep,y,hd,_⟩:=hg
   rw [z,hP] at y;cases y;cases hd
  refine ⟨⟨bm,ob,b1,b2,fun z=>?_,(fun z=>by rw [z,hP] at b3';cases b3';cases b4),b3',b4,b5,b6⟩,hmg⟩
  obtain ⟨o,es,ep,y,hd,_⟩:=hg
  rw [<- z,b3'] at y;cases y
  rw [b6] at hd;cases hd
 obtain ⟨hb,hgP⟩:=bmAt
 cases hf:Nu lpos (WM ts) with
 | none =>
  refine Nt (clos:=cl) hcl I.ok.glob hg hcode CH hP (Zez ts) hf hgP hb fun c' ctv h' tk hx hge hlt hrec hT=>?_
  have I1:=I.table (t':=tk) (h':=h') (qual:=X.env.qual++"<lambda>") (lpos:=lpos) e (fun b o hb' y=>hx b o hb' y) hT hge hrec
  have hcn:H c'=none:=I.hok.fresh hge
  have hcP:c'≠Pl:=fun z=>by rw [z,e] at hcn;cases hcn
  have gr:Grown Pl H (upd (upd H Pl (.tbl ((WM ts).toArray++#[Gf lpos.line,Gf lpos.col,.ref c']))) c' (.ext (Ua c' (X.env.qual++"<lambda>")))):=fun b o h1 y=>by rw [Zg (Zt y hcn),Zg h1];exact y
  refine h _ _ _ ((X.mg "__name__").getD .none) (.ref c') ctv cl (I1.kept (t':=tk) fun b o y=>Qd _ y) gr ⟨ts++[(lpos,c')],?_,fun p hp=>?_⟩ cl1 cl2 (I1.hok.fresh (Qh _)) (GH (QO hge hlt)) (Qs _ rfl) ⟨c',rfl,Zf⟩
  ·rw [Zg hcP.symm,Zf,Zlu];simp
  ·rcases mem_append.mp hp with y | y
   ·have e2:=ec p y
    exact gr _ _ (fun z=>by rw [z,e] at e2;cases e2) e2
   ·rw [mem_singleton.mp y];exact Zf
 | some v =>
  obtain ⟨p,hp,rfl⟩:=ZcJ hf
  have hrec:s.heap.CodeRec (.ref p.2) (X.env.qual++"<lambda>"):=(I.hok p.2 _ (ec p hp)).1
  refine Ob (clos:=cl) (cv:=.ref p.2) hcl I.ok.glob hg hcode CH hP (Zez ts) hf hb fun ctv h' tk hk hz=>?_
  exact h _ _ _ ((X.mg "__name__").getD .none) (.ref p.2) ctv cl ((I.kept (h':=h') (t':=tk) hk).kept (t':=tk) fun b o y=>Qd _ y) (fun b o _ y=>y) ⟨ts,e,ec⟩ cl1 cl2 (I.hok.fresh hz) hz (Qs _ rfl) ⟨p.2,rfl,ec p hp⟩
end
def Zgf (b:Addr)(o:Obj):HO:=.ext fun h=>h.get? b=some o
abbrev Pn:=List (Addr×Obj)
def cov (H:Hp)(cs:Pn):Hp:=fun b=>match cs.lookup b with
 | some o=>some (Zgf b o)
 | none=>H b
def unc (H:Hp)(cs:Pn):Hp:=fun b=>match cs.lookup b with
 | some _=>none
 | none=>H b
def Has (cs:Pn)(H:Hp):Prop:=∀ b o,cs.lookup b=some o->H b=some (Zgf b o)
def Xv (cs:Pn)(H:Hp):Prop:=∀ b o,cs.lookup b=some o->H b=none
def Vv (cs:Pn)(h:Heap):Prop:=∀ b o,cs.lookup b=some o->h.get? b=some o
section
variable {cs:Pn}{H H' H2:Hp}{h h':Heap}{b:Addr}{o:Obj}{P:Qk}{w:Qv}{fs:List Addr}
theorem ZhR (e:cs.lookup b=some o):cov H cs b=some (Zgf b o):=by unfold cov;rw [e]
theorem YO (e:cs.lookup b=none):cov H cs b=H b:=by unfold cov;rw [e]
theorem WN (e:cs.lookup b=some o):unc H cs b=none:=by unfold unc;rw [e]
theorem Yl (e:cs.lookup b=none):unc H cs b=H b:=by unfold unc;rw [e]
theorem has_cov:Has cs (cov H cs):=fun b o e=>ZhR e
theorem Has.same (a:Has cs H)(s:Same H H'):Has cs H':=fun b o e=>s _ _ (a b o e)
theorem VM (a:Xv cs H){u:HO}(e:H b=some u):cs.lookup b=none:=by
 cases q:cs.lookup b with
 | none=>rfl
 | some o=>rw [a b o q] at e;cases e
theorem Wr (a:Has cs H){u:HO}(e:H b=some u)(n:∀ φ,u≠.ext φ):cs.lookup b=none:=by
 cases q:cs.lookup b with
 | none=>rfl
 | some o=>rw [a b o q] at e;cases e;exact absurd rfl (n _)
theorem UO (a:Has cs H)(e:H b=none):cs.lookup b=none:=by
 cases q:cs.lookup b with
 | none=>rfl
 | some o=>rw [a b o q] at e;cases e
theorem Wb (a:Xv cs H):Same H (cov H cs):=fun b u e=>by rw [YO (VM a e)];exact e
theorem ZaO (a:Xv cs H')(s:Same (cov H' cs) H2):Same H' (unc H2 cs):=fun b u e=>by
 have q:=VM a e
 rw [Yl q];exact s _ _ (by rw [YO q];exact e)
theorem ZnD (e:h.get? b=some o):ObjOk P w H h b (Zgf b o):=⟨e,⟨o,e⟩,fun _ _ a k=>k _ a⟩
theorem Zcx (x:HOk P w H h)(a:Has cs H):Vv cs h:=fun b o e=>(x b _ (a b o e)).1
theorem HOk.unc (x:HOk P w H h)(a:Has cs H):HOk P w (unc H cs) h:=fun b u e=>by
 have q:cs.lookup b=none:=by
  cases q:cs.lookup b with
  | none=>rfl
  | some o=>rw [WN q] at e;cases e
 rw [Yl q] at e
 refine (x b u e).stay (fun _ _ _ z=>z) (fun c z=>?_) fun c xs z=>?_
 ·rw [Yl (Wr a z fun _ z=>by cases z)];exact z
 ·rw [Yl (Wr a z fun _ z=>by cases z)];exact z
theorem HOk.cov (x:HOk P w H h)(a:Xv cs H)(k:Vv cs h):HOk P w (cov H cs) h:=fun b u e=>by
 cases q:cs.lookup b with
 | some o=>rw [ZhR q] at e;cases e;exact ZnD (k b o q)
 | none =>
  rw [YO q] at e
  refine (x b u e).stay (fun _ _ _ z=>z) (fun c z=>?_) fun c xs z=>?_
  ·exact Wb a _ _ z
  ·exact Wb a _ _ z
theorem Un.cov (u:Un fs [] (unc H cs) H' h h')(a:Has cs H)(k:Vv cs h):Un fs [] H (cov H' cs) h h':=by
 have hn:Xv cs H':=fun b o e=>u.free b o (k b o e) (WN e) (by simp)
 refine ⟨fun b ob q n hb hx=>?_,fun b ob q n hb hx=>?_,fun b ob q n hx=>?_,fun b ob q hx=>u.there b ob q hx,fun b xs q=>?_,fun b ob xs q=>?_,fun b ps q=>?_⟩
 ·exact u.keep b ob q (by rw [Yl (UO a n)];exact n) hb hx
 ·exact u.slot b ob q (by rw [Yl (UO a n)];exact n) hb hx
 ·rw [YO (UO a n)];exact u.free b ob q (by rw [Yl (UO a n)];exact n) hx
 ·have z:=Wr a q fun _ z=>by cases z
  exact Wb hn _ _ (u.tups b xs (by rw [Yl z];exact q))
 ·have z:=Wr a q fun _ z=>by cases z
  exact Wb hn _ _ (u.frzs b ob xs (by rw [Yl z];exact q))
 ·have z:=Wr a q fun _ z=>by cases z
  obtain ⟨m,e⟩:=u.tbls b ps (by rw [Yl z];exact q)
  exact ⟨m,Wb hn _ _ e⟩
theorem Un.uncov (u:Un fs [] (L2.cov H cs) H2 h h')(n:Xv cs H)(k:Vv cs h)(k':Vv cs h'):Un fs [] H (unc H2 cs) h h':=by
 refine ⟨fun b ob q m hb hx=>?_,fun b ob q m hb hx=>?_,fun b ob q m hx=>?_,fun b ob q hx=>u.there b ob q hx,fun b xs q=>?_,fun b ob xs q=>?_,fun b ps q=>?_⟩
 ·cases e:cs.lookup b with
  | some o=>have:=k b o e;rw [q] at this;cases this;exact k' b _ e
  | none=>exact u.keep b ob q (by rw [YO e];exact m) hb hx
 ·cases e:cs.lookup b with
  | some o=>have:=k b o e;rw [q] at this;cases this;exact ⟨_,k' b _ e⟩
  | none=>exact u.slot b ob q (by rw [YO e];exact m) hb hx
 ·cases e:cs.lookup b with
  | some o=>exact WN e
  | none=>rw [Yl e];exact u.free b ob q (by rw [YO e];exact m) hx
 ·have z:=VM n q
  rw [Yl z];exact u.tups b xs (by rw [YO z];exact q)
 ·have z:=VM n q
  rw [Yl z];exact u.frzs b ob xs (by rw [YO z];exact q)
 ·have z:=VM n q
  obtain ⟨m,e⟩:=u.tbls b ps (by rw [YO z];exact q)
  exact ⟨m,by rw [Yl z];exact e⟩
theorem ExcAt.re {base:Heap}{n:Nat}{ea C dx:Addr}{fl:Option Qb}(x:ExcAt base n H ea C dx fl h)(f:∀ b,n<=b->H b=none->H' b=none):ExcAt base n H' ea C dx fl h:=by
 obtain ⟨a,b,c,oe,vs,e1,e2,e3,e4,tb⟩:=x
 refine ⟨a,f _ c b,c,oe,vs,e1,e2,e3,e4,?_⟩
 cases fl with
 | none=>exact tb
 | some v=>obtain ⟨T,oT,ts,t1,t2,t3,t4,t5,t6⟩:=tb;exact ⟨T,oT,ts,t1,t2,t3,f _ t5 t4,t5,t6⟩
end
abbrev XV (qual:Str)(sc:Scope)(L q:Addr)(cl:List (Str×Addr))(cd:Qb):Env:=newEnv sc L Ql cl (qual++".<locals>.") (some q) cd none Tr
def Vw (P:Qk)(w:Qv)(K:Qa)(mg:Str->Option Qb)(base:Heap)(N:List Str)(env:Env)(A:QF)(outer:List Env)(s:Qe)(H:Hp)(Z:Qb->Qe->Prop):Cx where
 prog:=P
 w:=w
 K:=K
 mg:=mg
 base:=base
 A:=A.deeper env
 N:=N
 s₀:=s
 H₀:=H
 env:=env
 outer:=outer
 stack:=env::outer
 ex:=[]
 fn:=fun _=>false
 calm:=true
 pn:=[]
 xe:=Z
section
variable {P:Qk}{w:Qv}{K:Qa}{mg:Str->Option Qb}{base:Heap}{N:List Str}
theorem Zig {env:Env}{A:QF}{outer:List Env}{s:Qe}{H:Hp}{E:XK}{R:Qb->Qe->Prop}(hL:env.locals=s.heap.objs.size)(hf:env.frame=some env.locals)(hR:∀ e s',Uz P w base outer H s E e s'->R e s') :
 XY (Vw P w K mg base N env A outer s H fun e s'=>Qq (Qt P w) (A.deeper env) (leaving env e) (fun _ s''=>R e s'') (fun e' s''=>R e' s'') s') (fun _=>E):=by
 intro pins σ H1 H2 s1 s2 ea C dx fl I1 I2 hfl x q
 have hsz:s.heap.objs.size<=s1.heap.objs.size:=I1.sz
 have hok2:HOk P w H2 s2.heap:=I2.hok
 refine ZdI (base:=base) (n:=s.heap.objs.size) (H:=H2) (outer:=outer) (L:=env.locals) hfl I2.ok.frames I2.stack hf I2.bk (x.le hsz) (fun b hb=>hok2.fresh hb) fun h' b1 f1 x1 k1=>hR _ _ ?_
 have un:Un (YM outer) [] H H2 s.heap s2.heap:=I2.base
 have nL:∀ b o,s.heap.get? b=some o->b ∉ YM outer->b ∉ YM (env::outer):=fun b o e hn m=>by
  rcases mem_filterMap.mp m with ⟨v,hv,ev⟩
  rcases mem_cons.mp hv with rfl | hv
  ·rw [hf,hL] at ev;cases ev;exact absurd (Qj e) (GJ _)
  ·exact hn (mem_filterMap.mpr ⟨v,hv,ev⟩)
 have inL:∀ b,b∈YM outer->b∈YM (env::outer):=fun b m=>by
  obtain ⟨v,hv,ev⟩:=mem_filterMap.mp m
  exact mem_filterMap.mpr ⟨v,mem_cons_of_mem _ hv,ev⟩
 refine ⟨ea,C,dx,H2,rfl,b1,f1,x1,I2.os,I2.bare,⟨fun b o e hn hb hx=>k1.2.1 b o (un.keep b o e hn hb hx) (nL b o e hb) (.inr (Qj e)),fun b o e hn hb hx=>?_,un.free,fun b o e hx=>?_,un.tups,un.frzs,un.tbls⟩,k1.hok hok2 I2.stkFree,q⟩
 ·obtain ⟨sl,e1⟩:=un.slot b o e hn hb hx
  obtain ⟨sl2,e2⟩:=k1.1 b _ e1 (inL b hb)
  exact ⟨sl2,e2⟩
 ·obtain ⟨o',e1⟩:=un.there b o e hx
  by_cases m:b∈YM (env::outer)
  ·obtain ⟨sl,e2⟩:=k1.1 b o' e1 m;exact ⟨_,e2⟩
  ·exact ⟨o',k1.2.1 b o' e1 m (.inr (Qj e))⟩
def Zki (P:Qk)(w:Qv)(K:Qa)(mg:Str->Option Qb)(base:Heap)(k:Nat)(cs:Pn)(cc:Addr)(qual:Str)(q:Addr)(T:Hp->VK->XK->Prop):Prop :=
 ∀ (A:QF) (outer:List Env) (s:Qe) (H:Hp) (Q:VK) (E:XK),Room k A->Env0 P w K mg base A outer s H->Has cs H->H cc=some (.ext (Ua cc qual)) ->
  T (unc H cs) (fun v H'=>Xv cs H'->Q v (cov H' cs)) (fun C d H'=>Xv cs H'->E C d (cov H' cs))->JU (Qt P w) A (.call (.ref q) ⟨[],[]⟩) (CR (Uz P w base) outer P w H s Q E) s
structure Zkq (sc:Scope):Prop where
 kind:sc.kind=.function
 co:sc.isCoroutine=false
 gen:sc.isGenerator=false
 cell:∀ y∈sc.names,y.2≠.cell
 loc:∀ y∈sc.names,y.2≠.local
theorem Znt {k:Nat}{cs:Pn}{cc q:Addr}{qual:Str}{args:RP}{body:Expr}{sc:Scope}{cl:List (Str×Addr)}{pm ct:Qb}{fo:Obj}{σ:St}{te:(St->XK)->TE}(S:Zkq sc)
 (hq:cs.lookup q=some fo) (hfo:fo={ cls:=.type "function",data:=.func (OG "<lambda>" qual args body sc cl pm (.ref cc) ct) })
 (hbind:Rv (OG "<lambda>" qual args body sc cl pm (.ref cc) ct) ⟨[],[]⟩=pure []) (hN:σ.length=N.length)
 (inj:∀ x y c,cl.lookup x=some c->cl.lookup y=some c->x=y) (cl2:∀ y∈sc.names,y.2=.free->cl.lookup y.1≠none)
 (hcl:∀ x c,cl.lookup x=some c->∃ o v,cs.lookup c=some o/\o.data=.cell v)
 (hσ:∀ (i:Nat) (x:Str) (v:V) (c:Addr),N[i]?=some x->σ[i]?=some (some v)->cl.lookup x=some c->sc.names.lookup x=some .free->∃ o u,cs.lookup c=some o/\o.data=.cell (some u)/\RelV v u)
 (he:∀ (A:QF) (outer:List Env) (s:Qe) (H:Hp) (Z:Qb->Qe->Prop) (EE:St->XK),Room k (A.deeper (XV qual sc s.heap.objs.size q cl (.ref cc)))->XY (Vw P w K mg base N (XV qual sc s.heap.objs.size q cl (.ref cc)) A outer s H Z) EE ->
  PE (Vw P w K mg base N (XV qual sc s.heap.objs.size q cl (.ref cc)) A outer s H Z) body (te EE)) :
 Zki P w K mg base (k+1) cs cc qual q (fun H Q E=>te (fun _=>E) σ H Q):=by
 intro A outer s H Q E hr e0 has hcc hT
 have lim:s.heap.NoLimit:=e0.mod.nolimit.keeps fun b o e=>(e0.bs b o e).1
 have hsh:Vv cs s.heap:=Zcx e0.hok has
 have hcd:s.heap.CodeRec (.ref cc) qual:=(e0.hok cc _ hcc).1
 have unone:∀ b,H b=none->unc H cs b=none:=fun b e=>by rw [Yl (UO has e)];exact e
 refine kla_callFunE (body:=body) hr.depth (hsh q fo hq) (by rw [hfo]) S.co S.gen rfl hcd ?_
 refine RF (a:=[]) hbind ?_
 refine RB S.cell (fun _ h=>nomatch h) (fun h₁ hns₁ hsb₁=>?_) S.kind
 have old:∀ b o,s.heap.get? b=some o->h₁.get? b=some o:=fun b o e=>hsb₁.extBut b o (Qw (Qj e)) (Qd _ e)
 refine ⟨lim.keeps old,kla_codeExpr ?_⟩
 have W:=Zig (P:=P) (w:=w) (K:=K) (mg:=mg) (base:=base) (N:=N) (env:=XV qual sc s.heap.objs.size q cl (.ref cc)) (A:=A) (outer:=outer) (s:=s) (H:=unc H cs) (E:=fun C d H'=>Xv cs H'->E C d (cov H' cs)) (R:=fun e s'=>CR (Uz P w base) outer P w H s Q E (.error e) s') rfl rfl (fun e s' h=>by
  obtain ⟨ea,C,dx,H',rfl,b1,f1,x1,os,gb,un,hok,q1⟩:=h
  have hn:Xv cs H':=fun b o e=>un.free b o (hsh b o e) (WN e) (by simp)
  have kk:Vv cs s'.heap:=fun b o e=>un.keep b o (hsh b o e) (WN e) (fun z=>by have:=e0.frf b z;rw [has b o e] at this;cases this) (by simp)
  refine ⟨ea,C,dx,cov H' cs,rfl,b1,f1,x1.re fun b l e=>?_,os,gb,un.cov has hsh,hok.cov hn kk,q1 hn⟩
  cases z:cs.lookup b with
  | none=>rw [YO z];exact e
  | some o=>exact absurd (Qj (hsh b o z)) (Go.mpr l))
 refine QS (he A outer s (unc H cs) _ _ (hr.deeper _) W [] _ σ (unc H cs) _ ?_ hT) (fun v s' hs=>?_) fun e s' hs=>hs
 ·refine ⟨⟨e0.mod,S.kind,rfl,rfl,Qh _,inj,fun x hx=>?_,(fun x c z _=>nomatch z),fun _=>hr.hd,Rw e0.frames,.inr ⟨rfl,rfl⟩,(fun b z=>nomatch z),fun b o e=>⟨(e0.bs b o e).1,unone b (e0.bs b o e).2⟩,e0.bsz,(fun _ _ _ z=>nomatch z),(fun _ z=>nomatch z),e0.funs,fun b hb=>unone b (e0.frf b hb)⟩,
   rfl,e0.bare,Un.kept old,⟨_,hns₁,fun i x v h1 h2 h3=>?_⟩,fun x c e=>?_,unone _ (e0.hok.fresh (Qh _)),fun x c e=>?_,(fun p hp=>nomatch hp),(e0.hok.unc has).kept old,hN⟩
  ·have hf:sc.names.lookup x=some .free:=by
    rcases hx with hx | hx
    ·exact absurd rfl (S.cell _ (L2.mem_of_lookup hx))
    ·exact hx
   cases z:cl.lookup x with
   | none=>exact absurd z (cl2 _ (L2.mem_of_lookup hf) rfl)
   | some c=>exact ⟨c,z⟩
  ·have hf:sc.names.lookup x=some .free:=by
    rcases h3 with hx | hx | hx
    ·exact absurd rfl (S.loc _ (L2.mem_of_lookup hx))
    ·exact absurd rfl (S.cell _ (L2.mem_of_lookup hx))
    ·exact hx
   cases z:cl.lookup x with
   | none=>exact absurd z (cl2 _ (L2.mem_of_lookup hf) rfl)
   | some c =>
    obtain ⟨o,u,h4,h5,h6⟩:=hσ i x v c h1 h2 z hf
    exact ⟨u,h6,.inr ⟨.inr hf,c,z,o,old _ _ (hsh c o h4),h5⟩⟩
  ·obtain ⟨o,v,h4,h5⟩:=hcl x c e
   exact ⟨v,o,old _ _ (hsh c o h4),h5⟩
  ·obtain ⟨o,v,h4,h5⟩:=hcl x c e
   exact WN h4
 ·obtain ⟨v',H',J,rv,q1⟩:=hs
  have un:Un (YM outer) [] (unc H cs) H' s.heap s'.heap:=J.base
  have hn:Xv cs H':=fun b o e=>un.free b o (hsh b o e) (WN e) (by simp)
  have kk:Vv cs s'.heap:=fun b o e=>un.keep b o (hsh b o e) (WN e) (fun z=>by have:=e0.frf b z;rw [has b o e] at this;cases this) (by simp)
  exact ⟨v',cov H' cs,J.os,J.bare,un.cov has hsh,HOk.cov J.hok hn kk,rv,q1 hn⟩
end
structure Thk (P:Qk)(w:Qv)(K:Qa)(mg:Str->Option Qb)(base:Heap)(k:Nat)(cs:Pn)(cc:Addr)(qual:Str)(q:Addr)(T:Hp->VK->XK->Prop):Prop where
 run:Zki P w K mg base k cs cc qual q T
 fn:∃ fo fd,cs.lookup q=some fo/\fo.data=.func fd
def tAsk (P:Qk)(w:Qv)(K:Qa)(mg:Str->Option Qb)(base:Heap)(k:Nat)(EE:St->XK)(i:Nat):TE:=fun σ H Q=>∃ q cs cc qual T,σ[i]?=some (some (.ref q))/\Thk P w K mg base k cs cc qual q T/\Has cs H/\H cc=some (.ext (Ua cc qual)) /\
 T (unc H cs) (fun v H'=>Xv cs H'->Q v (cov H' cs)) (fun C d H'=>Xv cs H'->EE σ C d (cov H' cs))
section
variable {X:Cx}{EE:St->XK}{k i:Nat}{x:Str}{p pos:Pos}
theorem ZmV (W:XY X EE)(hr:Room k X.A)(hN:X.N[i]?=some x)(hv:Vis X.env.scope x)(hd:(x == ("__debug__":Str))=false:=by decide)(hcd:(x == ("__classdict__":Str))=false:=by decide) :
 PE X (.Call (.Name x p) [] [] pos) (tAsk X.prog X.w X.K X.mg X.base k EE i):=by
 intro pins s σ H Q I h
 obtain ⟨q,cs,cc,qual,T,e,Z,has,hcc,hT⟩:=h
 refine QV (Zs (ZhZ (pos:=p) hN hv hd hcd pins s σ H (fun v H1=>v=.ref q/\H1=H) I ⟨_,e,rfl,rfl⟩) fun u s1 ⟨v,H1,I1,r,e1,e2⟩=>?_)
 subst e1;subst e2
 obtain rfl:u=Qo q:=r
 obtain ⟨fo,fd,z1,z2⟩:=Z.fn
 have hq:s1.heap.get? q=some fo:=Zcx I1.hok has q fo z1
 refine callWith_of (P:=fun h=>h.get? q=some fo) rfl (fun h e=>⟨.frame,.inl rfl,(Looks.ld (part:=none) e).andThen ?_⟩) (evalArgs_nil3 ⟨hq,?_⟩)
 ·simp only [z2];exact .now
 refine JF (GA (Z.run X.A X.stack s1 H1 Q (EE σ) hr I1.env0 has hcc hT) fun r s' hq=>?_)
 cases r with
 | error e =>
  obtain ⟨ea,C,dx,H',rfl,kb,ff,x,os,gb,un,hok,q⟩:=hq
  exact W pins σ H1 H' s1 s' ea C dx _ I1 (I1.call' os un hok gb fun b z=>absurd z (by simp)) (.inr rfl) x q
 | ok fl =>
  cases fl with
  | ret u=>exact I1.after hq
  | next=>exact QN hq
  | brk=>exact QN hq
  | cont=>exact QN hq
end
theorem Zlw {P:Qk}{w:Qv}{K:Qa}{mg:Str->Option Qb}{base:Heap}{X:Cx}{EE:St->XK}{k i:Nat}{x:Str}{p pos:Pos}(h1:X.prog=P)(h2:X.w=w)(h3:X.K=K)(h4:X.mg=mg)(h5:X.base=base)(W:XY X EE)(hr:Room k X.A)(hN:X.N[i]?=some x)(hv:Vis X.env.scope x)(hd:(x == ("__debug__":Str))=false:=by decide)(hcd:(x == ("__classdict__":Str))=false:=by decide) :
 PE X (.Call (.Name x p) [] [] pos) (tAsk P w K mg base k EE i):=by
 subst h1 h2 h3 h4 h5
 exact ZmV W hr hN hv hd hcd
def ZdA (env:Env)(h:Heap):Pn:=env.cells.filterMap fun p=>(env.cells.lookup p.1).bind fun c=>(h.get? c).map fun o=>(c,o)
theorem Zbc {env:Env}{h:Heap}{p:Addr×Obj}(m:p∈ZdA env h):h.get? p.1=some p.2/\∃ y,env.cells.lookup y=some p.1:=by
 obtain ⟨z,hz,e⟩:=mem_filterMap.mp m
 obtain ⟨c,e1,e2⟩:=Option.bind_eq_some_iff.mp e
 obtain ⟨o,e3,rfl⟩:=QR.mp e2
 exact ⟨e3,z.1,e1⟩
theorem ZgA {env:Env}{h:Heap}{x:Str}{c:Addr}{o:Obj}(e:env.cells.lookup x=some c)(ho:h.get? c=some o):(c,o)∈ZdA env h :=
 mem_filterMap.mpr ⟨(x,c),L2.mem_of_lookup e,by show (env.cells.lookup x).bind _=_;rw [e];show (h.get? c).map _=_;rw [ho];rfl⟩
theorem ZdW {b:Addr}{o:Obj}:∀{cs:Pn},cs.lookup b=some o->(b,o)∈cs
 | [],h=>by cases h
 | (n,z)::r,h=>by
  cases hx:b == n with
  | true =>
   have e:b=n:=by simpa using hx
   subst e
   simp only [lookup_cons,beq_self_eq_true] at h
   cases h
   exact mem_cons_self
  | false =>
   simp only [lookup_cons,hx] at h
   exact mem_cons_of_mem _ (ZdW h)
theorem Zcp {h:Heap}{b:Addr}{o:Obj}:∀{cs:Pn},(∀ p∈cs,h.get? p.1=some p.2)->(b,o)∈cs->cs.lookup b=some o
 | (n,z)::r,hh,m=>by
  cases hx:b == n with
  | true =>
   have e:b=n:=by simpa using hx
   subst e
   have h1:=hh _ mem_cons_self
   have h2:=hh _ m
   have h3:some z=some o:=h1.symm.trans h2
   simp only [lookup_cons,beq_self_eq_true];exact h3
  | false =>
   simp only [lookup_cons,hx]
   rcases mem_cons.mp m with e | m
   ·cases e;simp at hx
   ·exact Zcp (fun p hp=>hh p (mem_cons_of_mem _ hp)) m
structure LamOk (X:Cx)(sc:Scope):Prop where
 lam:Zkq sc
 clos:∀ y∈sc.names,y.2=.free->X.env.kindOf y.1=some .cell
 fn:∀ x,X.fn x=true
def Zkx (P:Qk)(w:Qv)(K:Qa)(mg:Str->Option Qb)(base:Heap)(k:Nat)(sp:Sp)(Pl:Addr)(qual:Str)(te:(St->XK)->TE):TE:=fun σ H Q=>LamsAt H Pl qual/\∀(q:Addr)(H1:Hp)(cs:Pn)(cc:Addr),Grown Pl H H1->LamsAt H1 Pl qual->Xv cs H1 ->
 Thk P w K mg base k cs cc qual q (fun H' Q' E'=>te (fun _=>E') σ H' Q')->H1 cc=some (.ext (Ua cc qual))->sp [.ref q] (cov H1 cs) (fun v H2=>Has cs H2/\Q v (unc H2 cs)) (fun _ _ _=>False)
section
variable {X:Cx}{k j:Nat}{f:Str}{pn:Str}{sp:Sp}{p0 lpos pos:Pos}{args:RP}{body:Expr}{sc:Scope}{te:(St->XK)->TE}{c Pl:Addr}
theorem Zmd (D:Def X.prog X.w X.K X.mg X.base j f [pn] sp)(hr:Room j X.A)(O:LamOk X sc)(hcode:X.env.code=.ref c)(C:Sy X.K c Pl=true)(hBm:WE X.base X.mg)
 (he:∀ (q:Addr) (cl:List (Str×Addr)) (cc:Addr) (A:QF) (outer:List Env) (s:Qe) (H:Hp) (Z:Qb->Qe->Prop) (EE:St->XK),Room k (A.deeper (XV (X.env.qual++"<lambda>") sc s.heap.objs.size q cl (.ref cc)))->XY (Vw X.prog X.w X.K X.mg X.base X.N (XV (X.env.qual++"<lambda>") sc s.heap.objs.size q cl (.ref cc)) A outer s H Z) EE ->
  PE (Vw X.prog X.w X.K X.mg X.base X.N (XV (X.env.qual++"<lambda>") sc s.heap.objs.size q cl (.ref cc)) A outer s H Z) body (te EE))
 (hdef:defaultsOf args X.env=([],[])) (hbind:∀ cl pm cc ct,Rv (OG "<lambda>" (X.env.qual++"<lambda>") args body sc cl pm (.ref cc) ct) ⟨[],[]⟩=pure [])
 (hg:Gl X f:=by rfl) (hdb:(f == ("__debug__":Str))=false:=by decide)
 (hst:QE [Expr.Lambda args body sc lpos] X.env=(false,eval (.Lambda args body sc lpos) X.env)::QE [] X.env:=by rfl) :
 PE X (.Call (.Name f p0) [.Lambda args body sc lpos] [] pos) (Zkx X.prog X.w X.K X.mg X.base (k+1) sp Pl (X.env.qual++"<lambda>") te):=by
 obtain ⟨fa,fd,F,hb,kp,hm⟩:=D
 intro pins s σ H Q I h
 obtain ⟨hL,h⟩:=h
 refine QV (WY I hg hm ?_ hdb)
 refine callWith_K (h₀:=X.base) I.ok.mod.kin kp ?_ hst rfl
 rw [hst]
 show Qq _ _ (spliced ((false,eval (.Lambda args body sc lpos) X.env)::Jg pos (QE [] X.env))) _ _ s
 refine Tx (Zjk I hcode C hBm hL hdef (fun y hy hf=>I.ok.has y.1 (.inl (O.clos y hy hf))) fun q H1 s1 pm cdv ct cl I1 gr L1 cl1 cl2 hqn hqs ho hcr=>?_)
 obtain ⟨cc,rfl,hcc⟩:=hcr
 refine TY ⟨I1.kIn,?_⟩
 generalize hfo:({ cls:=.type "function",data:=.func (OG "<lambda>" (X.env.qual++"<lambda>") args body sc cl pm (.ref cc) ct) }:Obj)=fo at ho
 generalize hcs:((q,fo)::ZdA X.env s1.heap:Pn)=cs
 have hall:∀ p∈cs,s1.heap.get? p.1=some p.2:=fun p hp=>by
  rw [<- hcs] at hp
  rcases mem_cons.mp hp with rfl | hp
  ·exact ho
  ·exact (Zbc hp).1
 have what:∀ b o,cs.lookup b=some o->b=q\/∃ y,X.env.cells.lookup y=some b:=fun b o e=>by
  have hp:=ZdW e
  rw [<- hcs] at hp
  rcases mem_cons.mp hp with z | hp
  ·cases z;exact .inl rfl
  ·exact .inr (Zbc hp).2
 have key:∀ b o,cs.lookup b=some o->X.s₀.heap.objs.size<=b/\b≠X.env.locals:=fun b o e=>by
  rcases what b o e with rfl | ⟨y,hy⟩
  ·exact ⟨Qn I.sz hqs,fun z=>by have:=I.lt;rw [<- z] at this;exact absurd this (Go.mpr hqs)⟩
  ·exact ⟨I.ok.cab y b (O.fn y) hy,I.cne y b hy⟩
 have hasn:Xv cs H1:=fun b o e=>by
  rcases what b o e with rfl | ⟨y,hy⟩
  ·exact hqn
  ·exact I1.freeC y b hy
 have hsh:Vv cs s1.heap:=fun b o e=>hall _ (ZdW e)
 have hlq:cs.lookup q=some fo:=Zcp hall (by rw [<- hcs];exact mem_cons_self)
 have hlc:∀ x c o,X.env.cells.lookup x=some c->s1.heap.get? c=some o->cs.lookup c=some o:=fun x c o e1 e2=>Zcp hall (by rw [<- hcs];exact mem_cons_of_mem _ (ZgA e1 e2))
 have e0:=I1.env0
 have no:∀ b,b < X.s₀.heap.objs.size\/b=X.env.locals->cs.lookup b=none:=fun b hb=>by
  cases z:cs.lookup b with
  | none=>rfl
  | some o =>
   obtain ⟨z1,z2⟩:=key b o z
   rcases hb with hb | hb
   ·exact absurd hb (Go.mpr z1)
   ·exact absurd hb z2
 have e1 : Env0 X.prog X.w X.K X.mg X.base X.A X.stack s1 (cov H1 cs):=by
  refine ⟨e0.frames,e0.mod,fun b o e=>⟨(e0.bs b o e).1,?_⟩,e0.bsz,e0.funs,fun b hb=>?_,e0.hok.cov hasn hsh,e0.bare⟩
  ·rw [YO (no b (.inl (QD (Qj e) I.ok.bsz)))];exact (e0.bs b o e).2
  ·rw [YO (no b ?_)]
   ·exact e0.frf b hb
   ·rcases mem_cons.mp (I1.stkSub b hb) with z | z
    ·exact .inr z
    ·obtain ⟨_,o,z1,_⟩:=I.ok.funs.mem z
     exact .inl (Qj z1)
 have Z:Thk X.prog X.w X.K X.mg X.base (k+1) cs cc (X.env.qual++"<lambda>") q (fun H' Q' E'=>te (fun _=>E') σ H' Q'):=by
  refine ⟨Znt (N:=X.N) O.lam hlq hfo.symm (hbind cl pm cc ct) I1.len (fun x y c e1 e2=>I1.ok.inj x y c (cl1 x c e1) (cl1 y c e2)) cl2 (fun x c e=>?_) (fun i x v c h1 h2 h3 h4=>?_) (he q cl cc),fo,_,hlq,by rw [<- hfo]⟩
  ·obtain ⟨v,o,z1,z2⟩:=I1.cell x c (cl1 x c e)
   exact ⟨o,v,hlc x c o (cl1 x c e) z1,z2⟩
  ·obtain ⟨m,hn,hl⟩:=I1.loc
   have hk:=O.clos _ (L2.mem_of_lookup h4) rfl
   obtain ⟨u,ru,lu⟩:=hl i x v h1 h2 (.inr (.inl hk))
   rcases lu with ⟨z,_⟩ | ⟨_,c',z,o,z1,z2⟩
   ·rw [hk] at z;cases z
   ·have:=cl1 x c h3
    rw [z] at this;cases this
    exact ⟨o,u,hlc x c o z z1,z2,ru⟩
 have hsp:=h q H1 cs cc gr L1 hasn Z hcc
 refine JF (GA (F.run X.A X.stack s1 (cov H1 cs) ⟨[.ref q],[]⟩ [.ref q] [.ref q] _ _ hr e1 (hb s1 [.ref q] I1.kIn rfl) (.cons rfl .nil) hsp) fun r s' hq=>?_)
 cases r with
 | error e=>exact QN hq
 | ok fl =>
  cases fl with
  | ret u =>
   obtain ⟨v,H2,os,bare,un,hok,r,has2,hQ⟩:=hq
   exact ⟨v,unc H2 cs,I1.call' os (un.uncov hasn hsh (Zcx hok has2)) (hok.unc has2) bare fun b z=>absurd z (by simp),r,hQ⟩
  | next=>exact QN hq
  | brk=>exact QN hq
  | cont=>exact QN hq
end
theorem Ve:∀{bs:List Bool}{us:List Qb},Vals (bs.map V.bl) us->us=bs.map GM
 | [],_,.nil=>rfl
 | b::bs,_,.cons r h=>by
  have e:=Ve h
  cases (show _=GM b from r)
  rw [e];rfl
def Zaj:Qb->Bool
 | .bool b=>b
 | _=>false
def Zmc (K:Qa):V->List V->Hp->VK->Prop:=fun x vs H Q=>∃(l:Addr)(bs:List Bool),x=.ref l/\vs=[.bl true]/\SqL K H l (bs.map V.bl)/\Q (.int ((bs.filter id).length:Nat)) H
def ZlP (K:Qa):V->List V->Hp->VK->Prop:=fun x vs H Q=>∃(l:Addr)(bs:List Bool)(j:Nat),x=.ref l/\vs=[.bl true]/\SqL K H l (bs.map V.bl)/\bs[j]?=some true/\(∀ m,m < j->bs[m]?=some false)/\j<=100000/\Q (.int (j:Nat)) H
theorem VP:∀ bs:List Bool,(bs.map GM).countP Zaj=(bs.filter id).length
 | []=>rfl
 | true::r=>by rw [map_cons,List.countP_cons_of_pos rfl,VP r];rfl
 | false::r=>by rw [map_cons,List.countP_cons_of_neg (by decide),VP r];rfl
section
variable {X:Cx}
theorem Zhn (A:QF)(s:Qe){bs:List Bool}{y:Qb}(h:y∈bs.map GM):SeqAt.EqAt A s y (.bool true) (Zaj y):=by
 obtain ⟨b,_,rfl⟩:=mem_map.mp h
 have:=SeqAt.EqAt.bool_bool (A:=A) (s:=s) b true
 cases b<;>exact this
theorem Ziw:MtR X "list.count" (Zmc X.K):=by
 intro pins s σ H x vs v us Q I rx rv h
 obtain ⟨l,bs,rfl,rfl,hl,q⟩:=h
 cases rx
 obtain ⟨u,rfl,ru⟩:=Yt rv
 obtain rfl:u=GM true:=ru
 obtain ⟨its,r,ht,_⟩:=I.list hl
 obtain ⟨⟨cls,dd,data,sl⟩,n,ho,hc,hsl,hd⟩:=ht
 have hi:=Ve r
 dsimp only at hc hsl hd
 subst hc hsl hd
 subst hi
 refine JH SH ⟨_,ho,rfl⟩ PySem.F.entry_list_count (PySem.F.args_list_count_2 _ _) (PySem.SeqAt.list_countAt l _ n none sl (.bool true) Zaj) ⟨ho,fun y hy=>Zhn _ _ (bs:=bs) (by simpa using hy),?_⟩
 rw [show ((bs.map GM).toArray).toList=bs.map GM from rfl,VP]
 exact ⟨.int ((bs.filter id).length:Nat),H,I.tok _,⟨_,rfl⟩,q⟩
theorem ZhC:MtR X "list.index" (ZlP X.K):=by
 intro pins s σ H x vs v us Q I rx rv h
 obtain ⟨l,bs,j,rfl,rfl,hl,h1,h2,h3,q⟩:=h
 cases rx
 obtain ⟨u,rfl,ru⟩:=Yt rv
 obtain rfl:u=GM true:=ru
 obtain ⟨its,r,ht,_⟩:=I.list hl
 obtain ⟨⟨cls,dd,data,sl⟩,n,ho,hc,hsl,hd⟩:=ht
 have hi:=Ve r
 dsimp only at hc hsl hd
 subst hc hsl hd
 subst hi
 have hj:j < bs.length:=(Qf.mp h1).1
 refine JH SI ⟨_,ho,rfl⟩ PySem.F.entry_list_index (PySem.F.args_list_index_2 _ _)
  (PySem.SeqAt.list_indexAt l _ n none sl (.bool true) Zaj j (by simpa using hj) (by omega) ?_ ?_) ⟨ho,fun y hy=>Zhn _ _ (bs:=bs) (by simpa using hy),⟨.int (j:Nat),H,I.tok _,⟨_,rfl⟩,q⟩⟩
 ·have:bs[j]=true:=(Qf.mp h1).2
  simp [this,Zaj]
 ·intro m hm hlt
  obtain ⟨z1,z2⟩:=Qf.mp (h2 m hlt)
  simp [z2,Zaj]
end
def ZhO (names:List (Str×Pf))(sc:Scope):Bool :=
 (sc.kind == .function&&(!sc.isCoroutine&&!sc.isGenerator))&&sc.names.all fun y=>(y.2 != .cell&&y.2 != .local)&&(y.2 != .free || names.lookup y.1 == some .cell)
theorem LamOk.of {X:Cx}{sc:Scope}(st:Stmt)(hn:X.env.scope=Zj st)(hf:X.fn=fun _=>true)(chk:ZhO (Zj st).names sc=true):LamOk X sc:=by
 unfold ZhO at chk
 simp only [QL,all_eq_true,Rg,bne_iff_ne,beq_iff_eq,JA] at chk
 obtain ⟨⟨c1,c2,c3⟩,c4⟩:=chk
 refine ⟨⟨c1,c2,c3,fun y hy=>(c4 y hy).1.1,fun y hy=>(c4 y hy).1.2⟩,fun y hy hfr=>?_,fun x=>by rw [hf]⟩
 show X.env.scope.names.lookup y.1=_
 rw [hn];exact (c4 y hy).2.resolve_left fun z=>z hfr
def WS (q:Str):Yw:=fun Pl h=>LamsAt h Pl q
theorem LamsAt.same {H H':Hp}{Pl:Addr}{q:Str}(h:LamsAt H Pl q)(s:Same H H'):LamsAt H' Pl q:=by
 obtain ⟨ts,e,f⟩:=h
 exact ⟨ts,s _ _ e,fun p hp=>s _ _ (f p hp)⟩
instance {q:Str}:Up (WS q):=⟨fun h s=>LamsAt.same h s⟩
theorem Sep.grow {Δ:Rs}{H H':Hp}{Pl:Addr}{q:Str}(S:Sep ((Pl,WS q)::Δ) H)(g:Grown Pl H H')(L:LamsAt H' Pl q):Sep ((Pl,WS q)::Δ) H':=by
 refine S.call (L:=[Pl]) (fun b o nb e=>g b o (fun z=>nb (by simp [z])) e) fun h l r=>⟨fun b hb=>?_,some_of H' [Pl],WV,?_,fun b o e m=>.inl (WA e m)⟩
 ·rw [mem_singleton.mp hb]
  obtain ⟨ts,e,_⟩:=r
  exact ⟨_,e,rfl⟩
 ·obtain ⟨ts,e,f⟩:=L
  exact ⟨ts,(Wd (by simp)).trans e,fun p hp=>UN (f p hp) rfl⟩
theorem Grown.more {Pl:Addr}{H H1 H2:Hp}(g:Grown Pl H H1)(s:Same H1 H2):Grown Pl H H2:=fun b o n e=>s _ _ (g b o n e)
def ZbM (P:Qk)(w:Qv)(K:Qa)(mg:Str->Option Qb)(base:Heap)(k:Nat)(RK:Addr->Str->Prop):Sp:=fun vs H Q _=>∃ q cs cc qual T,vs=[.ref q]/\Thk P w K mg base k cs cc qual q T/\Has cs H/\H cc=some (.ext (Ua cc qual))/\∀(H1:Hp)(Qc:VK)(Ec:XK),Same H H1 ->
 (∀ v H',(Xv cs H'->∀ a H2,Same (cov H' cs) H2->H2 a=some (.tup [.str "told",v])->Q (.ref a) H2)->Qc v H') ->
 (∀ C dx word what H',RK C word->H' dx=some (.xd [("what",what)])->(Xv cs H'->∀ a H2,Same (cov H' cs) H2->H2 a=some (.tup [.str "refused",.str word,what])->Q (.ref a) H2)->Ec (.ref C) (some dx) H')->T (unc H1 cs) Qc Ec
def ZgV (RK:Addr->Str->Prop)(Pl:Addr)(qual:Str)(te:(St->XK)->TE):TE:=fun σ H Q=>LamsAt H Pl qual/\∀(H1:Hp)(Qc:VK)(Ec:XK),Grown Pl H H1->LamsAt H1 Pl qual ->
 (∀ v H',(∀ a H2,Same H' H2->H2 a=some (.tup [.str "told",v])->Q (.ref a) H2)->Qc v H') ->
 (∀ C dx word what H',RK C word->H' dx=some (.xd [("what",what)])->(∀ a H2,Same H' H2->H2 a=some (.tup [.str "refused",.str word,what])->Q (.ref a) H2)->Ec (.ref C) (some dx) H')->te (fun _=>Ec) σ H1 Qc
section
variable {P:Qk}{w:Qv}{K:Qa}{mg:Str->Option Qb}{base:Heap}{k:Nat}{RK:Addr->Str->Prop}{Pl:Addr}{qual:Str}{te:(St->XK)->TE}{σ:St}{H:Hp}{Q:VK}
theorem Zld (h:ZgV RK Pl qual te σ H Q):Zkx P w K mg base k (ZbM P w K mg base k RK) Pl qual te σ H Q:=by
 obtain ⟨hL,h⟩:=h
 refine ⟨hL,fun q H1 cs cc gr L1 hn Z hcc=>⟨q,cs,cc,qual,_,rfl,Z,has_cov,Wb hn _ _ hcc,fun H1' Qc Ec s1 hq he=>?_⟩⟩
 have s2:=ZaO hn s1
 refine h (unc H1' cs) Qc Ec (gr.more s2) (L1.same s2) (fun v H' f=>hq v H' fun hn' a H2 s3 e=>⟨has_cov.same s3,f a _ (ZaO hn' s3) ?_⟩) (fun C dx word what H' rk ed f=>he C dx word what H' rk ed fun hn' a H2 s3 e=>⟨has_cov.same s3,f a _ (ZaO hn' s3) ?_⟩)
 ·rw [Yl (Wr (has_cov.same s3) e fun _ z=>by cases z)];exact e
 ·rw [Yl (Wr (has_cov.same s3) e fun _ z=>by cases z)];exact e
end
section
variable {X:Cx}{k j:Nat}{RK:Addr->Str->Prop}{f:Str}{pn:Str}{p0 lpos pos:Pos}{args:RP}{body:Expr}{sc:Scope}{te:(St->XK)->TE}{c Pl:Addr}
theorem Zlf (D:Def X.prog X.w X.K X.mg X.base j f [pn] (ZbM X.prog X.w X.K X.mg X.base (k+1) RK))(hr:Room j X.A)(O:LamOk X sc)(hcode:X.env.code=.ref c)(C:Sy X.K c Pl=true)(hBm:WE X.base X.mg)
 (he:∀ (q:Addr) (cl:List (Str×Addr)) (cc:Addr) (A:QF) (outer:List Env) (s:Qe) (H:Hp) (Z:Qb->Qe->Prop) (EE:St->XK),Room k (A.deeper (XV (X.env.qual++"<lambda>") sc s.heap.objs.size q cl (.ref cc)))->XY (Vw X.prog X.w X.K X.mg X.base X.N (XV (X.env.qual++"<lambda>") sc s.heap.objs.size q cl (.ref cc)) A outer s H Z) EE ->
  PE (Vw X.prog X.w X.K X.mg X.base X.N (XV (X.env.qual++"<lambda>") sc s.heap.objs.size q cl (.ref cc)) A outer s H Z) body (te EE))
 (hdef:defaultsOf args X.env=([],[]):=by rfl) (hbind:∀ cl pm cc ct,Rv (OG "<lambda>" (X.env.qual++"<lambda>") args body sc cl pm (.ref cc) ct) ⟨[],[]⟩=pure []:=by intros;rfl)
 (hg:Gl X f:=by rfl) (hdb:(f == ("__debug__":Str))=false:=by decide)
 (hst:QE [Expr.Lambda args body sc lpos] X.env=(false,eval (.Lambda args body sc lpos) X.env)::QE [] X.env:=by rfl) :
 PE X (.Call (.Name f p0) [.Lambda args body sc lpos] [] pos) (ZgV RK Pl (X.env.qual++"<lambda>") te) :=
 fun pins s σ H Q I h=>Zmd D hr O hcode C hBm he hdef hbind hg hdb hst pins s σ H Q I (Zld h)
end
end L2
namespace L2
open PySem
structure Fnd where
 wd:Nat
 nm:Str
 ol:V
def Fnd.vs (f:Fnd):List V:=[.int (f.wd:Int),.str f.nm,f.ol]
def UK (fs:List Fnd):Yw:=fun l h=>∃ as:List Addr,h l=some (.lst (as.map V.ref))/\as.length=fs.length/\∀(i:Nat)(a:Addr)(f:Fnd),as[i]?=some a->fs[i]?=some f->h a=some (.tup f.vs)
instance {fs:List Fnd}:Up (UK fs):=⟨fun ⟨as,e,l,h⟩ s=>⟨as,s _ _ e,l,fun i a x e1 e2=>s _ _ (h i a x e1 e2)⟩⟩
abbrev tFl (lf lu:Addr):List (Str×V):=[("finds",.ref lf),("unused",.ref lu)]
def WL (CT:Addr)(fs:List Fnd)(us:List Bool):Yw:=fun t h=>∃ lf lu,Sep [(t,Xq CT (tFl lf lu)),(lf,UK fs),(lu,Yj (us.map V.bl))] h
instance {CT:Addr} {fs:List Fnd} {us:List Bool}:Up (WL CT fs us):=⟨fun ⟨lf,lu,S⟩ s=>⟨lf,lu,S.mono s⟩⟩
structure Hs where
 dfs:List (Zn×V)
 pls:List Yn
 nds:List Nd
 tabs:List (Zn×V)
 spots:List Nat
 ins:List Nat
 fds:List Fnd
 us:List Bool
abbrev nI (n:Nat):V:=.int (n:Int)
theorem ZcQ {xs:List Nat}{k:Nat}(h:xs.getLast?=some k):YH (xs.map nI) (-1)=some (nI k):=by
 obtain ⟨ys,rfl⟩:=List.getLast?_eq_some_iff.mp h
 have hl:((ys++[k]).map nI).length=ys.length+1:=by rw [length_map,length_append];rfl
 have e:((ys++[k]).map nI)[ys.length]?=some (nI k):=by rw [map_append,getElem?_append_right (by simp)];simp
 have e2:XI (ys.length+1) (-1)=some ys.length:=by
  unfold XI
  rw [if_neg (by omega),if_pos (by omega),show (-1+((ys.length+1:Nat):Int)).toNat=ys.length by omega]
 unfold YH
 rw [hl,e2];exact e
abbrev VC (d r sp i t:Addr):List (Str×V):=[("defaults",.ref d),("ways",.ref r),("spots",.ref sp),("inside",.ref i),("held",.ref t)]
abbrev Zjj (K:Qa)(CH CR CS CT:Addr)(s:Hs)(h d r sp i t:Addr):Rs :=
 [(h,Xq CH (VC d r sp i t)),(d,Xu s.dfs),(r,Va K CR CS s.pls s.nds s.tabs),(sp,Yj (s.spots.map nI)),(i,Yj (s.ins.map nI)),(t,WL CT s.fds s.us)]
def Xf (K:Qa)(CH CR CS CT:Addr)(s:Hs):Yw:=fun h hp=>∃ d r sp i t,Sep (Zjj K CH CR CS CT s h d r sp i t) hp
section
variable {K:Qa}{CH CR CS CT h d r sp i t lf lu:Addr}{s:Hs}{fs:List Fnd}{us:List Bool}{Δ:Rs}{H:Hp}
instance:Up (Xf K CH CR CS CT s):=⟨fun ⟨d,r,sp,i,t,S⟩ e=>⟨d,r,sp,i,t,S.mono e⟩⟩
theorem Sep.halO (S:Sep ((h,Xf K CH CR CS CT s)::Δ) H):∃ d r sp i t,Sep ((h,Xq CH (VC d r sp i t))::(d,Xu s.dfs)::(r,Va K CR CS s.pls s.nds s.tabs)::(sp,Yj (s.spots.map nI))::(i,Yj (s.ins.map nI))::(t,WL CT s.fds s.us)::Δ) H:=by
 obtain ⟨h',l,⟨d,r,sp,i,t,G⟩,S⟩:=S
 exact ⟨d,r,sp,i,t,Sep.nest (a:=h) (Γ:=Zjj K CH CR CS CT s h d r sp i t) l G S⟩
theorem Sep.halC (S:Sep ((h,Xq CH (VC d r sp i t))::(d,Xu s.dfs)::(r,Va K CR CS s.pls s.nds s.tabs)::(sp,Yj (s.spots.map nI))::(i,Yj (s.ins.map nI))::(t,WL CT s.fds s.us)::Δ) H):Sep ((h,Xf K CH CR CS CT s)::Δ) H :=
 Sep.pack (Γ:=Zjj K CH CR CS CT s h d r sp i t) S fun h' G=>⟨d,r,sp,i,t,G⟩
theorem Sep.tksO (S:Sep ((t,WL CT fs us)::Δ) H):∃ lf lu,Sep ((t,Xq CT (tFl lf lu))::(lf,UK fs)::(lu,Yj (us.map V.bl))::Δ) H:=by
 obtain ⟨h',l,⟨lf,lu,G⟩,S⟩:=S
 exact ⟨lf,lu,Sep.nest (a:=t) (Γ:=[(t,Xq CT (tFl lf lu)),(lf,UK fs),(lu,Yj (us.map V.bl))]) l G S⟩
theorem Sep.tksC (S:Sep ((t,Xq CT (tFl lf lu))::(lf,UK fs)::(lu,Yj (us.map V.bl))::Δ) H):Sep ((t,WL CT fs us)::Δ) H :=
 Sep.pack (Γ:=[(t,Xq CT (tFl lf lu)),(lf,UK fs),(lu,Yj (us.map V.bl))]) S fun h' G=>⟨lf,lu,G⟩
theorem Zgz:(VC d r sp i t).lookup ("defaults":Str)=some (V.ref d):=rfl
theorem ZdU:(VC d r sp i t).lookup ("ways":Str)=some (V.ref r):=rfl
theorem ZeD:(VC d r sp i t).lookup ("spots":Str)=some (V.ref sp):=rfl
theorem hf_i:(VC d r sp i t).lookup ("inside":Str)=some (V.ref i):=rfl
theorem Zer:(VC d r sp i t).lookup ("held":Str)=some (V.ref t):=rfl
theorem Yg {m:Str}(h:[("defaults":Str),"ways","spots","inside","held"].all (fun k=>!(m == k))=true):(VC d r sp i t).lookup m=none:=by
 simp only [Os,Nf,Ot,QL,JA] at h
 obtain ⟨h1,h2,h3,h4,h5⟩:=h
 simp [VC,GB,h1,h2,h3,h4,h5]
end
structure Xg (K:Qa)(CH:Addr):Prop where
 cl:Cls K CH
 nd:NoAttr K CH "defaults"
 nw:NoAttr K CH "ways"
 ns:NoAttr K CH "spots"
 ni:NoAttr K CH "inside"
 nh:NoAttr K CH "held"
structure WO (K:Qa)(CT:Addr):Prop where
 cl:Cls K CT
 nf:NoAttr K CT "finds"
 nu:NoAttr K CT "unused"
end L2
namespace K36
open PySem L2
section
variable {P:Qk}{w:Qv}{K:Qa}{mg:Str->Option Qb}{base:Heap}{CH CR CS CT:Addr}
def Zfx (CT:Addr):Sp:=fun vs H Q _=>∃(t dx:Addr)(H0:Hp)(Δ:Rs),vs=[.ref t]/\H=upd (upd H0 dx (.own t)) t (.ins CT dx [])/\H0 t=none/\H0 dx=none/\dx≠t/\Sep Δ H0/\∀ H',Sep ((t,WL CT [] [])::Δ) H'->Q .non H'
abbrev nTIn:List Str:=["self"]
abbrev ZkE:List Str:=["self"]
theorem Zpr:Zm nTIn ZkE (Zj c_Tokens___init__):=⟨rfl,rfl,rfl,by decide +kernel,rfl,by decide +kernel,by decide +kernel⟩
theorem ZjL {f:Addr}{fd:Qm}(F:Fun K "__init__" "Tokens.__init__" c_Tokens___init__ f fd)(T:ZY mg)(TT:WO K CT):FnOk P w K mg base ZC 1 f fd ZkE (Zfx CT):=by
 refine F.ok Zpr (fun vs H Q E h=>?_) (fun cdv A outer s H vs Q E hr h=>?_)
 ·obtain ⟨t,dx,H0,Δ,rfl,_⟩:=h;rfl
 obtain ⟨t,dx,H0,Δ,rfl,rfl,h1,h2,h3,S0,q⟩:=h
 have S:=((S0.new h2 (.own t)).new (p:=t) (by rw [Zg h3.symm];exact h1) (.ins CT dx [])).drop dx
 generalize upd (upd H0 dx (.own t)) t (.ins CT dx [])=H at *
 refine' ⟨?t,?h,?r⟩
 case h =>
  conv=>arg 2;whnf
  with_reducible refine' (Ze ?h1 (Zh ?h2))
  case h1=>exact YW (pv 0) (ZX Za) rfl
  case h2=>exact YW (pv 0) (ZX Za) rfl
 try dsimp only [ZQ,Cx.nox]
 refine zs2 ?_
 intro zD zS zN1
 refine ⟨(by show 0<=Qi;decide),fun lf hlf=>?_⟩
 generalize hE:upd H lf _=H2
 have S2:=S.newE hlf hE
 clear hE
 refine ⟨_,rfl,t,CT,dx,_,rfl,S2.get t,TT.cl,TT.nf,(by show 0 < 1000;decide),?_⟩
 generalize hE:upd H2 t _=H3
 have S3:=S2.putE hE
 clear hE
 refine ⟨(by show 0<=Qi;decide),fun lu hlu=>?_⟩
 generalize hE:upd H3 lu _=H4
 have S4:=S3.newE hlu hE
 clear hE
 refine ⟨_,rfl,t,CT,dx,_,rfl,S4.get t,TT.cl,TT.nu,(by show 1 < 1000;decide),?_⟩
 generalize hE:upd H4 t _=H5
 have S5:=S4.putE hE
 clear hE
 have S6:=S5.say lf (UK []) fun h z=>⟨[],z,rfl,fun i a s e=>by simp at e⟩
 have S7:=S6.say t (Xq CT (tFl lf lu)) fun h z=>⟨dx,z⟩
 exact q _ (Sep.tksC (us:=[]) (((S7.pull lu).pull lf).pull t))
def hs0:Hs:=⟨[],[],[.bare],[(QT 0,.bl true)],[0],[0],[],[]⟩
def Zft (K:Qa)(CH CR CS CT:Addr):Sp:=fun vs H Q _=>∃(p dx:Addr)(H0:Hp)(Δ:Rs),vs=[.ref p]/\H=upd (upd H0 dx (.own p)) p (.ins CH dx [])/\H0 p=none/\H0 dx=none/\dx≠p/\Sep Δ H0/\∀ H',Sep ((p,Xf K CH CR CS CT hs0)::Δ) H'->Q .non H'
abbrev nHIn:List Str:=["self"]
abbrev Zkh:List Str:=["self"]
theorem ZoJ:Zm nHIn Zkh (Zj c_Hall___init__):=⟨rfl,rfl,rfl,by decide +kernel,rfl,by decide +kernel,by decide +kernel⟩
theorem ZiV {f:Addr}{fd:Qm}(F:Fun K "__init__" "Hall.__init__" c_Hall___init__ f fd)(T:ZY mg)(TH:Xg K CH)(DRd:Zcs P w K mg base 11 CR "Roads" ["self"] (Zfr K CR CS))(DTk:Zcs P w K mg base 1 CT "Tokens" ["self"] (Zfx CT)):FnOk P w K mg base ZC 13 f fd Zkh (Zft K CH CR CS CT):=by
 refine F.ok ZoJ (fun vs H Q E h=>?_) (fun cdv A outer s H vs Q E hr h=>?_)
 ·obtain ⟨t,dx,H0,Δ,rfl,_⟩:=h;rfl
 obtain ⟨p,dx,H0,Δ,rfl,rfl,h1,h2,h3,S0,q⟩:=h
 have S:=((S0.new h2 (.own p)).new (p:=p) (by rw [Zg h3.symm];exact h1) (.ins CH dx [])).drop dx
 generalize upd (upd H0 dx (.own p)) p (.ins CH dx [])=H at *
 have hr2:=hr.mono (show 2<=12 by decide)
 refine' ⟨?t,?h,?r⟩
 case h =>
  conv=>arg 2;whnf
  with_reducible refine' (Ze ?h1 (Ze ?h2 (Ze ?h3 (Ze ?h4 (Zh ?h5)))))
  case h1=>exact YW (pv 0) ZaW rfl
  case h2=>exact YW (pv 0) (Zdr DRd hr) rfl
  case h3=>exact YW (pv 0) (ZX (Zb Zi Za)) rfl
  case h4=>exact YW (pv 0) (ZX (Zb Zi Za)) rfl
  case h5=>exact YW (pv 0) (Zdr DTk hr2) rfl
 try dsimp only [ZQ,Cx.nox]
 refine zs5 ?_
 intro zD zS zN4 zN3 zN2 zN1
 intro d hd
 generalize hE:upd H d _=H1
 have S1:=S.newE hd hE
 clear hE
 refine ⟨_,rfl,p,CH,dx,_,rfl,S1.get p,TH.cl,TH.nd,(by show 0 < 1000;decide),?_⟩
 generalize hE:upd H1 p _=H2
 have S2:=S1.putE hE
 clear hE
 intro r dr hr1 hdr hne
 refine ⟨r,dr,_,_,rfl,rfl,hr1,hdr,hne,S2,fun H3 S3=>⟨rfl,?_⟩⟩
 refine ⟨_,rfl,p,CH,dx,_,rfl,S3.get p,TH.cl,TH.nw,(by show 1 < 1000;decide),?_⟩
 generalize hE:upd H3 p _=H4
 have S4:=S3.putE hE
 clear hE
 refine ⟨(by show 1<=Qi;decide),fun sp hsp=>?_⟩
 generalize hE:upd H4 sp _=H5
 have S5:=S4.newE hsp hE
 clear hE
 refine ⟨_,rfl,p,CH,dx,_,rfl,S5.get p,TH.cl,TH.ns,(by show 2 < 1000;decide),?_⟩
 generalize hE:upd H5 p _=H6
 have S6:=S5.putE hE
 clear hE
 refine ⟨(by show 1<=Qi;decide),fun i hi=>?_⟩
 generalize hE:upd H6 i _=H7
 have S7:=S6.newE hi hE
 clear hE
 refine ⟨_,rfl,p,CH,dx,_,rfl,S7.get p,TH.cl,TH.ni,(by show 3 < 1000;decide),?_⟩
 generalize hE:upd H7 p _=H8
 have S8:=S7.putE hE
 clear hE
 intro t dt ht1 hdt hnt
 refine ⟨t,dt,_,_,rfl,rfl,ht1,hdt,hnt,S8,fun H9 S9=>⟨rfl,?_⟩⟩
 refine ⟨_,rfl,p,CH,dx,_,rfl,S9.get p,TH.cl,TH.nh,(by show 4 < 1000;decide),?_⟩
 generalize hE:upd H9 p _=H10
 have S10:=S9.putE hE
 clear hE
 have S11:=S10.say p (Xq CH (VC d r sp i t)) fun h z=>⟨dx,z⟩
 exact q _ (Sep.halC (s:=hs0) (((((S11.pull t).pull i).pull sp).pull r).pull d |>.pull p))
abbrev UF (K:Qa)(CH CR CS CT h:Addr)(s:Hs)(H:Hp):Prop:=Xf K CH CR CS CT s h H
def ZgJ (K:Qa)(CH CR CS CT:Addr):Sp:=fun vs H Q _=>∃(h:Addr)(s:Hs)(k:Nat),vs=[.ref h,.int (k:Int)]/\UF K CH CR CS CT h s H/\k < s.spots.length/\Q .non H
abbrev nHCk:List Str:=["self","world"]
abbrev Zdh:List Str:=["self","world"]
theorem ZoI:Zm nHCk Zdh (Zj c_Hall_check_world):=⟨rfl,rfl,rfl,by decide +kernel,rfl,by decide +kernel,by decide +kernel⟩
theorem ZnH {f:Addr}{fd:Qm}(F:Fun K "check_world" "Hall.check_world" c_Hall_check_world f fd)(T:ZY mg)(TH:Xg K CH):FnOk P w K mg base ZC 1 f fd Zdh (ZgJ K CH CR CS CT):=by
 refine F.ok ZoI (fun vs H Q E h=>?_) (fun cdv A outer s H vs Q E hr h=>?_)
 ·obtain ⟨h,s,k,rfl,_⟩:=h;rfl
 obtain ⟨h,s,k,rfl,⟨d,r,sp,i,t,S⟩,hk,q⟩:=h
 obtain ⟨dx,ob⟩:=S.get h
 refine' ⟨?t,?h,?r⟩
 case h =>
  conv=>arg 2;whnf
  with_reducible refine' (Zh (ZZ ?h1 (Zh Vl) ZM))
  case h1=>exact Wn (ZaA ZgU Zbk Zi (pv 1) (Zr ZO rfl T.len QM (Zb (Zu (pv 0) rfl) Za)))
 try dsimp only [ZQ,Cx.nox]
 refine ⟨_,rfl,_,_,rfl,rfl,_,rfl,?_⟩
 rw [decide_eq_true (show (0:Int)<=(k:Int) by omega)]
 refine Yk ⟨_,rfl,h,CH,dx,_,_,rfl,ob,TH.cl,TH.ns,ZeD,sp,_,rfl,.inl (SqL.of (S.get sp)),_,_,rfl,rfl,_,rfl,?_⟩
 rw [decide_eq_true (show (k:Int) < (((s.spots.map nI).length:Nat):Int) by rw [length_map];omega)]
 exact ZP q
def Zbw (K:Qa)(CH CR CS CT:Addr):Sp:=fun vs H Q _=>∃(h:Addr)(s:Hs)(k p:Nat),vs=[.ref h,.int (k:Int)]/\UF K CH CR CS CT h s H/\s.spots[k]?=some p/\Q (.int (p:Int)) H
abbrev nHPl:List Str:=["self","world"]
abbrev Zai:List Str:=["self","world"]
theorem ZoQ:Zm nHPl Zai (Zj c_Hall_place):=⟨rfl,rfl,rfl,by decide +kernel,rfl,by decide +kernel,by decide +kernel⟩
theorem ZmM {f:Addr}{fd:Qm}(F:Fun K "place" "Hall.place" c_Hall_place f fd)(T:ZY mg)(TH:Xg K CH)(DH_check_world:DefM P w K mg base 1 CH "check_world" Zdh (ZgJ K CH CR CS CT)):FnOk P w K mg base ZC 2 f fd Zai (Zbw K CH CR CS CT):=by
 refine F.ok ZoQ (fun vs H Q E h=>?_) (fun cdv A outer s H vs Q E hr h=>?_)
 ·obtain ⟨h,s,k,p,rfl,_⟩:=h;rfl
 obtain ⟨h,s,k,p,rfl,R,hk,q⟩:=h
 obtain ⟨d,r,sp,i,t,S⟩:=id R
 obtain ⟨dx,ob⟩:=S.get h
 refine' ⟨?t,?h,?r⟩
 case h =>
  conv=>arg 2;whnf
  with_reducible refine' (Ze ?h1 (Zh ?h2))
  case h1=>exact ZU (ZH DH_check_world TH.cl hr (pv 0) (Zb (pv 1) Za))
  case h2=>exact Zq (Zz ZB (Zu (pv 0) rfl) (pv 1) (fun _ _=>rfl))
 try dsimp only [ZQ,Cx.nox]
 refine zs2 ?_
 intro zD zS zN1
 refine ⟨_,rfl,h,dx,_,rfl,ob,Yg (by decide +kernel),_,rfl,h,s,k,rfl,R,(Qf.mp hk).1,?_⟩
 exact ⟨_,rfl,h,CH,dx,_,_,rfl,ob,TH.cl,TH.ns,ZeD,_,rfl,sp,_,_,_,rfl,rfl,SqL.of (S.get sp),ZE (by rw [getElem?_map,hk];rfl),q⟩
def ZbN (K:Qa)(CH CR CS CT:Addr):Sp:=fun vs H Q _=>∃(h:Addr)(s:Hs)(k:Nat),vs=[.ref h]/\UF K CH CR CS CT h s H/\s.ins.getLast?=some k/\Q (.int (k:Int)) H
abbrev nHNo:List Str:=["self"]
abbrev Zae:List Str:=["self"]
theorem Zps:Zm nHNo Zae (Zj c_Hall_now):=⟨rfl,rfl,rfl,by decide +kernel,rfl,by decide +kernel,by decide +kernel⟩
theorem Zoj {f:Addr}{fd:Qm}(F:Fun K "now" "Hall.now" c_Hall_now f fd)(T:ZY mg)(TH:Xg K CH):FnOk P w K mg base ZC 1 f fd Zae (ZbN K CH CR CS CT):=by
 refine F.ok Zps (fun vs H Q E h=>?_) (fun cdv A outer s H vs Q E hr h=>?_)
 ·obtain ⟨h,s,k,rfl,_⟩:=h;rfl
 obtain ⟨h,s,k,rfl,⟨d,r,sp,i,t,S⟩,hk,q⟩:=h
 obtain ⟨dx,ob⟩:=S.get h
 refine' ⟨?t,?h,?r⟩
 case h =>
  conv=>arg 2;whnf
  with_reducible refine' (Zh ?h1)
  case h1=>exact Zq (Zz ZB (Zu (pv 0) rfl) (Zdk Zba Zi) (fun _ _=>rfl))
 try dsimp only [ZQ,Cx.nox]
 exact ⟨_,rfl,h,CH,dx,_,_,rfl,ob,TH.cl,TH.ni,hf_i,1,rfl,i,_,_,_,rfl,rfl,SqL.of (S.get i),ZcQ hk,q⟩
end
end K36
namespace L2
open PySem PySem.W
def Zbi (v:Option (Option Qb))(x:String):Bool:=match v with
 | some (some (.builtin b))=>b == x
 | _=>false
def Zdo (v:Option (Option Qb)):Bool:=match v with
 | some none=>true
 | _=>false
def ZbI (K:Qa)(CRo C fI:Addr)(cs n1 n2:List Addr)(j:Nat):Bool :=
 ((ZeA K C&&Zdo (Qx K (.ref C) "what"))&&(Zbi (Qx K (.ref C) "__getattribute__") "BaseException.__getattribute__"&&(Zdo (Qx K (.ref C) "__getattr__")&&Zbi (Qx K (.ref C) "__class__") "object.__class__"))) &&
 (((match Qx K (.ref C) "__init__" with | some (some (.ref a))=>a == fI | _=>false)&&Zbi (Qx K (.ref C) "__setattr__") "object.__setattr__")&&keepIn K (.ref C)) &&
 ((exmOne K (.ref C) (.ref CRo) == some true&&kitOne K (.ref C) (.type "ValueError") == some true) &&
  (((Gd cs.length).all fun i=>kitOne K (.ref C) (.ref (cs.getD i 0)) == some (decide (i=j)))&&(kitAny K (.ref C) (n1.map Qo) == some false&&kitAny K (.ref C) (n2.map Qo) == some false)))
structure RefK (K:Qa)(CRo:Addr)(cs n1 n2:List Addr)(C:Addr)(j:Nat):Prop where
 g:XG K C
 cat:exmOne K (.ref C) (.ref CRo)=some true
 ve:kitOne K (.ref C) (.type "ValueError")=some true
 is:∀ i,i < cs.length->kitOne K (.ref C) (.ref (cs.getD i 0))=some (decide (i=j))
 no1:kitAny K (.ref C) (n1.map Qo)=some false
 no2:kitAny K (.ref C) (n2.map Qo)=some false
theorem ZdS {v:Option (Option Qb)}{x:String}(h:Zbi v x=true):v=some (some (.builtin x)):=by
 unfold Zbi at h
 split at h
 ·rw [beq_iff_eq.mp h]
 ·cases h
theorem ZeC {v:Option (Option Qb)}(h:Zdo v=true):v=some none:=by
 unfold Zdo at h
 split at h
 ·rfl
 ·cases h
theorem UT {K:Qa}{CRo C fI:Addr}{cs n1 n2:List Addr}{j:Nat}(h:ZbI K CRo C fI cs n1 n2 j=true):RefK K CRo cs n1 n2 C j/\(isFn K (.ref fI)=true->XF K C fI):=by
 unfold ZbI at h
 simp only [QL,beq_iff_eq,all_eq_true,mem_range] at h
 obtain ⟨⟨⟨⟨a1,a2⟩,a3,a4,a5⟩,⟨b1,b2⟩,b3⟩,⟨c1,c2⟩,c3,c4,c5⟩:=h
 have g:XG K C:=⟨a1,ZeC a2,ZdS a3,ZeC a4,ZdS a5⟩
 refine ⟨⟨g,c1,c2,c3,c4,c5⟩,fun hf=>?_⟩
 have i1:Qx K (.ref C) "__init__"=some (some (.ref fI)):=by
  split at b1
  ·rename_i e;rw [e,beq_iff_eq.mp b1]
  ·cases b1
 exact ⟨a1,i1,ZdS b2,ZeC a2,hf,b3⟩
end L2
namespace L2
open PySem PySem.Spec PyProof.Rows PyProof.Rows.KTD
section
variable {δ:Type}{Rr:δ->Qb->Prop}{prog:Qk}{w:Qv}{A:QF}{E:Qb->Qe->Prop}{s:Qe}{a:Addr}{D:List (Str×δ)}{k:Str}{tk:Tok}
end
section
variable {X:Cx}{o e:Expr}{apos cpos:Pos}{te:TE}{d:Addr}{D:List (Str×List V)}
end
end L2
namespace L2
open PySem PySem.Spec PyProof.Rows
section
variable {X:Cx}
end
mutual
theorem DatT.same {K:Qa}{H H':Hp}(s:Same H H'):∀{v d},DatT K H v d->DatT K H' v d
 | _,_,.non=>.non
 | _,_,.int i=>.int i
 | _,_,.str x=>.str x
 | _,_,.tup e q=>.tup (e.tf s.tf) (DatTs.same s q)
theorem DatTs.same {K:Qa}{H H':Hp}(s:Same H H'):∀{vs ds},DatTs K H vs ds->DatTs K H' vs ds
 | _,_,.nil=>.nil
 | _,_,.cons r t=>.cons (DatT.same s r) (DatTs.same s t)
end
theorem Zih {P:Nat->Bool}{x:Str}(h:x.cps.toList.all P=true)(hP:∀ c,P c=true->c < 1114112):PyData.strOk x=true:=by
 show x.cps.all (fun c=>decide (c < 1114112))=true
 rw [<- Array.all_toList,all_eq_true]
 exact fun c hc=>decide_eq_true (hP c (all_eq_true.mp h c hc))
theorem Zhx {v:V}(h:IsVal v):(YE v).canLay0=true:=by
 cases v<;>first | rfl | exact Zih h.2 (fun c hc=>by unfold VH at hc;simp at hc;omega) | exact h.elim
def Zpg (K:Qa):R2:=fun x y H Q=>∃(a b:Addr)(xs:List V)(ds:List Ta),x=.ref a/\y=.ref b/\H a=some (.lst xs)/\DatTs K H xs ds/\Ja ds=true/\Gh ds<=50/\H b=some (.lst [])/\Q (.bl (!decide (xs=[]))) H
section
variable {X:Cx}
theorem Zan {K:Qa}(hK:X.K=K)(hu:X.A.units+64 < Re):Xe X (GL .NotEq) (Zpg K):=by
 subst hK
 intro pins s σ H x y v u Q I rx ry h
 obtain ⟨a,b,xs,ds,rfl,rfl,e1,d1,c1,hd,e2,q⟩:=h
 cases rx;cases ry
 obtain ⟨_,its,n,rv,g⟩:=(show ObjOk X.prog X.w H s.heap a (.lst xs) from I.hok a _ e1)
 obtain ⟨_,its2,n2,rv2,g2⟩:=(show ObjOk X.prog X.w H s.heap b (.lst []) from I.hok b _ e2)
 cases rv2
 obtain ⟨nd,as,ra⟩:=DatTs.reads I its d1 rv
 have r1:Reads s.heap (.ref a) (.list ds) _:=.list g rfl rfl (by simpa using ra)
 have r2:Reads s.heap (.ref b) (.list []) _:=.list g2 rfl rfl .nil
 refine SeqAt.compareNe_reads r1 r2 c1 rfl (QO (Oa (Qn (No _ _) (show (RM []).depth<=1 by decide)) _) (by omega)) ⟨.bl _,H,I,rfl,?_⟩
 have e:PyData.eqv (.list ds) (.list [])=decide (xs=[]):=by
  cases d1 with
  | nil=>rfl
  | cons _ _=>simp [PyData.eqv,PyData.eqvAll]
 rw [e];exact q
end
section
variable {prog:Qk}{w:Qv}{A:QF}{E:Qb->Qe->Prop}{s:Qe}
end
section
variable {X:Cx}
end
section
variable {prog:Qk}{w:Qv}{A:QF}{E:Qb->Qe->Prop}{s:Qe}
end
section
variable {prog:Qk}{w:Qv}{A:QF}{E:Qb->Qe->Prop}{s:Qe}
end
section
variable {X:Cx}
end
section
variable {X:Cx}{pins:List (Addr×Obj)}{σ:St}{H:Hp}{s:Qe}
end
end L2
namespace L2
open PySem
structure FG (K:Qa)(x:Str)(st:Stmt)(f:Addr)(fd:Qm):Prop where
 a:Qr K Ql x=some (some (.ref f))
 F:Fun K x x st f fd
structure FM (K:Qa)(C:Addr)(x q:Str)(st:Stmt)(f:Addr)(fd:Qm):Prop where
 m:VR K C x f
 F:Fun K x q st f fd
structure FGC (K:Qa)(x:Str)(st:Stmt)(f:Addr)(fd:Qm)(c Pl:Addr):Prop where
 a:Qr K Ql x=some (some (.ref f))
 F:FunC K x x st f fd c Pl
structure CH (K:Qa)(x:Str)(C:Addr):Prop where
 a:Qr K Ql x=some (some (.ref C))
 c:Cls K C
 ms:Rc K C=true
 kp:GO K (.ref C)=true
structure Bs (P:Qk)(w:Qv)(K:Qa)(mg:Str->Option Qb)(base h:Heap):Prop where
 X:K.In h
 G:h.Ns Ql mg
section
variable {P:Qk}{w:Qv}{K:Qa}{mg:Str->Option Qb}{base h:Heap}{x q:Str}{st:Stmt}{f c Pl C:Addr}{fd:Qm}{k:Nat}{ps:List Str}{sp:Sp}{p1 p2 p3 p4 p5:Str}
theorem FG.df (g:FG K x st f fd)(e:Bs P w K mg base h)(o:FnOk P w K mg base ZC k f fd ps sp)(b:Binds K fd ps []):Def P w K mg base k x ps sp:=⟨f,fd,o,b,g.F.kp,GD e.X e.G g.a⟩
theorem FGC.df (g:FGC K x st f fd c Pl)(e:Bs P w K mg base h)(o:FnOk P w K mg base ZC k f fd ps sp)(b:Binds K fd ps []):Def P w K mg base k x ps sp:=⟨f,fd,o,b,g.F.kp,GD e.X e.G g.a⟩
theorem FM.df (g:FM K C x q st f fd)(_:Bs P w K mg base h)(o:FnOk P w K mg base ZC k f fd ps sp)(b:Binds K fd ps []):DefM P w K mg base k C x ps sp:=⟨f,fd,o,b,g.m⟩
theorem FM.di {y:Str}(g:FM K C "__init__" q st f fd)(ch:CH K y C)(e:Bs P w K mg base h)(o:FnOk P w K mg base ZC k f fd ps sp)(b:Binds K fd ps []):Zcs P w K mg base k C y ps sp:=⟨f,fd,o,b,⟨ch.ms,g.m.at_,g.m.fn,ch.kp⟩,GD e.X e.G ch.a⟩
abbrev BA (x q:Str)(st:Stmt)(us:List Qb)(r:List (Str×Qb)):Prop:=∀(kV doc pm:Qb)(an:Option Addr)(cdv ct:Qb),Rv (Pg x q (Zaq st) (XB st) (Zj st) .none kV doc pm an cdv ct) ⟨us,[]⟩=pure r
theorem Fun.b1 (F:Fun K x q st f fd)(h:∀ u,BA x q st [u] [(p1,u)]):Binds K fd [p1] []:=F.binds fun a b c d e g us hl=>match us,hl with | [u],_=>h u a b c d e g
theorem Fun.b2 (F:Fun K x q st f fd)(h:∀ u v,BA x q st [u,v] [(p1,u),(p2,v)]):Binds K fd [p1,p2] []:=F.binds fun a b c d e g us hl=>match us,hl with | [u,v],_=>h u v a b c d e g
theorem Fun.b3 (F:Fun K x q st f fd)(h:∀ u v y,BA x q st [u,v,y] [(p1,u),(p2,v),(p3,y)]):Binds K fd [p1,p2,p3] []:=F.binds fun a b c d e g us hl=>match us,hl with | [u,v,y],_=>h u v y a b c d e g
theorem Fun.b4 (F:Fun K x q st f fd)(h:∀ u v y z,BA x q st [u,v,y,z] [(p1,u),(p2,v),(p3,y),(p4,z)]):Binds K fd [p1,p2,p3,p4] []:=F.binds fun a b c d e g us hl=>match us,hl with | [u,v,y,z],_=>h u v y z a b c d e g
theorem Fun.b5 (F:Fun K x q st f fd)(h:∀ u v y z z',BA x q st [u,v,y,z,z'] [(p1,u),(p2,v),(p3,y),(p4,z),(p5,z')]):Binds K fd [p1,p2,p3,p4,p5] []:=F.binds fun a b c d e g us hl=>match us,hl with | [u,v,y,z,z'],_=>h u v y z z' a b c d e g
theorem Zhf (F:Fun K x q st f fd)(h:∀ u,BA x q st [u] [(p1,u)])(s:Qe)(v:Qb):RO s fd ⟨[v],[]⟩ [(p1,v)]:=by
 obtain ⟨oc,od,kV,doc,pm,an,cdv,ct,osl,rfl,lk,hcd⟩:=F.ex
 exact .of_eq (h v kV doc pm an cdv ct)
end
end L2
namespace L2
open PySem PySem.Spec PyProof.Rows
def ZiI:Expr->Option V
 | .Constant (.int i) _ _=>some (.int i)
 | .Constant (.str x) _ _=>some (.str x)
 | .Constant (.bool b) _ _=>some (.bl b)
 | .Constant .none _ _=>some .non
 | _=>none
def ZgQ:List Expr->Option (List V)
 | []=>some []
 | e::es=>match ZiI e,ZgQ es with
  | some v,some vs=>some (v::vs)
  | _,_=>none
section
variable {X:Cx}
theorem Zmk {e:Expr}{v:V}(h:ZiI e=some v):PE X e (tC v)/\∀ es,QE (e::es) X.env=(false,eval e X.env)::QE es X.env:=by
 unfold ZiI at h
 split at h<;>cases h
 ·exact ⟨Zi,fun _=>rfl⟩
 ·exact ⟨ZS,fun _=>rfl⟩
 ·exact ⟨YV,fun _=>rfl⟩
 ·exact ⟨XX,fun _=>rfl⟩
def Zou (vs:List V):TA:=fun _ H Q=>Q vs H
theorem ZeZ:∀{es:List Expr}{vs:List V},ZgQ es=some vs->PA X es (Zou vs)
 | [],_,h=>by cases h;exact Za
 | e :: es,vs,h=>by
  rw [ZgQ] at h
  split at h
  ·rename_i v ws h1 h2
   cases h
   obtain ⟨p,s⟩:=Zmk (X:=X) h1
   exact Yv p (ZeZ h2) (s es)
  ·cases h
end
section
variable {X:Cx}
end
section
variable {K:Qa}{x q:Str}{st:Stmt}{f:Addr}{fd:Qm}{p1 p2 p3 p4 p5 p6 p7:Str}
end
section
variable {X:Cx}
end
end L2
namespace K36
open PySem L2
abbrev xNm:List Str:=["Known","NoSetting","Missing","NoWorld","Busy","AtHome","NoToken","Used","Elsewhere","OutOfTurn","NoTable","NoNode","NoPlace","NotBehind","NoWatcher","NoTask","BadRow"]
abbrev xWd:List Str:=["known","setting","missing","world","busy","home","token","used","elsewhere","turn"]
structure TxtE (K:Qa)(mg:Str->Option Qb)(CRo:Addr)(cs:List Addr):Prop where
 road:mg "RoadError"=some (.ref CRo)
 ve:mg "ValueError"=none
 ex:∀ (i:Nat) {x:Str},xNm[i]?=some x->mg x=some (.ref (cs.getD i 0))
theorem ZlA {K:Qa}{mg:Str->Option Qb}{CRo c0 c1 c2 c3 c4 c5 c6 c7 c8 c9 c10 c11 c12 c13 c14 c15 c16:Addr}(hr:mg "RoadError"=some (.ref CRo))(hv:mg "ValueError"=none)(h0:mg "Known"=some (.ref c0))(h1:mg "NoSetting"=some (.ref c1))(h2:mg "Missing"=some (.ref c2))(h3:mg "NoWorld"=some (.ref c3))(h4:mg "Busy"=some (.ref c4))(h5:mg "AtHome"=some (.ref c5))(h6:mg "NoToken"=some (.ref c6))(h7:mg "Used"=some (.ref c7))(h8:mg "Elsewhere"=some (.ref c8))(h9:mg "OutOfTurn"=some (.ref c9))(h10:mg "NoTable"=some (.ref c10))(h11:mg "NoNode"=some (.ref c11))(h12:mg "NoPlace"=some (.ref c12))(h13:mg "NotBehind"=some (.ref c13))(h14:mg "NoWatcher"=some (.ref c14))(h15:mg "NoTask"=some (.ref c15))(h16:mg "BadRow"=some (.ref c16)):TxtE K mg CRo [c0,c1,c2,c3,c4,c5,c6,c7,c8,c9,c10,c11,c12,c13,c14,c15,c16]:=⟨hr,hv,fun i x h=>match i,h with
 | 0,h=>by cases h;exact h0
 | 1,h=>by cases h;exact h1
 | 2,h=>by cases h;exact h2
 | 3,h=>by cases h;exact h3
 | 4,h=>by cases h;exact h4
 | 5,h=>by cases h;exact h5
 | 6,h=>by cases h;exact h6
 | 7,h=>by cases h;exact h7
 | 8,h=>by cases h;exact h8
 | 9,h=>by cases h;exact h9
 | 10,h=>by cases h;exact h10
 | 11,h=>by cases h;exact h11
 | 12,h=>by cases h;exact h12
 | 13,h=>by cases h;exact h13
 | 14,h=>by cases h;exact h14
 | 15,h=>by cases h;exact h15
 | 16,h=>by cases h;exact h16
 | n+17,h=>by simp [xNm] at h⟩
def RK (K:Qa)(CRo:Addr)(cs:List Addr)(C:Addr)(word:Str):Prop:=∃ j,RefK K CRo [cs.getD 0 0,cs.getD 1 0,cs.getD 2 0,cs.getD 3 0,cs.getD 4 0,cs.getD 5 0,cs.getD 6 0,cs.getD 7 0,cs.getD 8 0,cs.getD 9 0] [cs.getD 10 0,cs.getD 11 0,cs.getD 12 0,cs.getD 13 0] [cs.getD 14 0,cs.getD 15 0,cs.getD 16 0] C j/\xWd[j]?=some word
abbrev kBs (j:Nat):List Bool:=[decide (0=j),decide (1=j),decide (2=j),decide (3=j),decide (4=j),decide (5=j),decide (6=j),decide (7=j),decide (8=j),decide (9=j),false,false]
theorem kcnt:∀ j:Fin 10,((kBs j.val).filter id).length=1:=by decide
theorem kat:∀ j:Fin 10,(kBs j.val)[j.val]?=some true:=by decide
theorem kno:∀ j:Fin 10,∀ m:Fin 10,m.val < j.val->(kBs j.val)[m.val]?=some false:=by decide
section
variable {P:Qk}{w:Qv}{K:Qa}{mg:Str->Option Qb}{base:Heap}{CRo:Addr}{cs:List Addr}{kk:Nat}
abbrev nTo:List Str:=["_law_ask","_law_caught","_law_found","error","_law_kinds","_law_words"]
abbrev pnTo:List Str:=["_law_ask"]
theorem scTo:Zm nTo pnTo (Zj s_l_told):=⟨rfl,rfl,rfl,by decide +kernel,rfl,by decide +kernel,by decide +kernel⟩
theorem Zln {f:Addr}{fd:Qm}(F:Fun K "_law_told" "_law_told" s_l_told f fd)(T:ZY mg)(TE:TxtE K mg CRo cs):FnOk P w K mg base ZC (kk+1) f fd pnTo (ZbM P w K mg base kk (RK K CRo cs)):=by
 refine F.ok scTo (fun vs H Q E h=>?_) (fun cdv A outer s H vs Q E hr h=>?_)
 ·obtain ⟨q,cs',cc,qual,T',rfl,_⟩:=h;rfl
 obtain ⟨q,cs',cc,qual,T',rfl,Z,has,hcc,hT⟩:=h
 refine' ⟨?t,?h,?r⟩
 case h =>
  conv=>arg 2;whnf
  with_reducible refine' (Ze ?h1 (Ze (ZjE (i:=3) ?h2 ?h3 ?h4 ?h5 ?h6 ?h7 ?h8 ?h9 ?h10 (fun pn Z EE W=>(Zh ?h11)) (fun ea Z=>(Zh ?h12))) (Ze (ZZ ?h13 (Zh ?h14) ZM) (Ze ?h15 (Ze ?h16 (Ze ?h17 (Ze ?h18 (Ze ?h19 (Ze (Zv (i:=5) ?h20 ?h21 ?h22 (ZX ?h23) ?h24 ?h25) (Ze (ZZ ?h26 (Zh ?h27) ZM) (Zh ?h28)))))))))))
  case h1=>exact Yu (Yi (Zb XX (Zb XX Za))) (Xz rfl (ZF (ZA (i:=1) scTo.nd rfl (Qz rfl)) (ZF (ZA (i:=2) scTo.nd rfl (Qz rfl)) Xb)))
  case h2=>exact rfl
  case h3=>exact rfl
  case h4=>exact rfl
  case h5=>exact scTo.nd
  case h6=>exact rfl
  case h7=>exact rfl
  case h8=>exact rfl
  case h9=>exact TE.road
  case h10=>exact (by decide)
  case h11=>exact Zv (i:=2) scTo.nd rfl (Qz rfl) (Zlw (i:=0) (P:=P) (w:=w) (K:=K) (mg:=mg) (base:=base) rfl rfl rfl rfl rfl W hr rfl (.inl rfl))
  case h12=>exact Zv (i:=1) scTo.nd rfl (Qz rfl) (pv 3)
  case h13=>exact Xa (Wh (pv 1))
  case h14=>exact Zq (Yi (Zb ZS (Zb (pv 2) Za)))
  case h15=>exact Zv (i:=4) scTo.nd rfl (Qz rfl) (ZX (Zb (Zr Yy rfl T.isinstance (by decide +kernel) (Zb (pv 1) (Zb (ZR (v:=.ref _) rfl (TE.ex 0 rfl) rfl) Za))) (Zb (Zr Yy rfl T.isinstance (by decide +kernel) (Zb (pv 1) (Zb (ZR (v:=.ref _) rfl (TE.ex 1 rfl) rfl) Za))) (Zb (Zr Yy rfl T.isinstance (by decide +kernel) (Zb (pv 1) (Zb (ZR (v:=.ref _) rfl (TE.ex 2 rfl) rfl) Za))) Za))))
  case h16=>exact Zv (i:=4) scTo.nd rfl (Qz rfl) (Zx ZbA (pv 4) (ZX (Zb (Zr Yy rfl T.isinstance (by decide +kernel) (Zb (pv 1) (Zb (ZR (v:=.ref _) rfl (TE.ex 3 rfl) rfl) Za))) (Zb (Zr Yy rfl T.isinstance (by decide +kernel) (Zb (pv 1) (Zb (ZR (v:=.ref _) rfl (TE.ex 4 rfl) rfl) Za))) (Zb (Zr Yy rfl T.isinstance (by decide +kernel) (Zb (pv 1) (Zb (ZR (v:=.ref _) rfl (TE.ex 5 rfl) rfl) Za))) Za)))))
  case h17=>exact Zv (i:=4) scTo.nd rfl (Qz rfl) (Zx ZbA (pv 4) (ZX (Zb (Zr Yy rfl T.isinstance (by decide +kernel) (Zb (pv 1) (Zb (ZR (v:=.ref _) rfl (TE.ex 6 rfl) rfl) Za))) (Zb (Zr Yy rfl T.isinstance (by decide +kernel) (Zb (pv 1) (Zb (ZR (v:=.ref _) rfl (TE.ex 7 rfl) rfl) Za))) (Zb (Zr Yy rfl T.isinstance (by decide +kernel) (Zb (pv 1) (Zb (ZR (v:=.ref _) rfl (TE.ex 8 rfl) rfl) Za))) Za)))))
  case h18=>exact Zv (i:=4) scTo.nd rfl (Qz rfl) (Zx ZbA (pv 4) (ZX (Zb (Zr Yy rfl T.isinstance (by decide +kernel) (Zb (pv 1) (Zb (ZR (v:=.ref _) rfl (TE.ex 9 rfl) rfl) Za))) (Zb (Zr ZcD rfl T.isinstance (by decide +kernel) (Zb (pv 1) (Zb (Yi (Wk (ZR (v:=.ref _) rfl (TE.ex 10 rfl) rfl) (Wk (ZR (v:=.ref _) rfl (TE.ex 11 rfl) rfl) (Wk (ZR (v:=.ref _) rfl (TE.ex 12 rfl) rfl) (Wk (ZR (v:=.ref _) rfl (TE.ex 13 rfl) rfl) Za rfl) rfl) rfl) rfl)) Za))) Za))))
  case h19=>exact Zv (i:=4) scTo.nd rfl (Qz rfl) (Zx ZbA (pv 4) (ZX (Zb (Zr ZcD rfl T.isinstance (by decide +kernel) (Zb (pv 1) (Zb (Yi (Wk (ZR (v:=.ref _) rfl (TE.ex 14 rfl) rfl) (Wk (ZR (v:=.ref _) rfl (TE.ex 15 rfl) rfl) (Wk (ZR (v:=.ref _) rfl (TE.ex 16 rfl) rfl) Za rfl) rfl) rfl)) Za))) Za)))
  case h20=>exact scTo.nd
  case h21=>exact rfl
  case h22=>exact (Qz rfl)
  case h23=>(refine' ZeZ (vs:=[.str "known",.str "setting",.str "missing",.str "world",.str "busy",.str "home",.str "token",.str "used",.str "elsewhere",.str "turn",.str "odd",.str "odd"]) ?zz;case zz=>decide +kernel)
  case h24=>exact rfl
  case h25=>exact (by first | exact .inl rfl | exact .inr rfl)
  case h26=>exact PW.pt (ZgC (ZL UC (YS QB SH PySem.F.type_list_count Ziw (pv 4) (Zb YV Za)) Zi (ZJ _)) (Zey (Wn (XS (Zr Yy rfl T.isinstance (by decide +kernel) (Zb (pv 1) (Zb (Zls rfl TE.ve (by decide +kernel) (v:=.ty "ValueError") rfl) Za)))))))
  case h27=>exact Zq (Yi (Zb ZS (Zb ZS (Zb XX Za))))
  case h28=>exact Zq (Yi (Zb ZS (Zb (Zz ZB (pv 5) (YS QB SI PySem.F.type_list_index ZhC (pv 4) (Zb YV Za)) (fun _ _=>rfl)) (Zb (Zlm (pv 1) rfl) Za))))
 try dsimp only [ZQ,Cx.nox]
 refine zs11 ?_
 intro zD zS zN10 zN9 zN8 zN7 zN6 zN5 zN4 zN3 zN2 zN1
 refine ⟨(by decide),fun t0 ht0=>⟨t0,_,rfl,SqT.of Zf,rfl,_,_,rfl,_,_,rfl,rfl,?_⟩⟩
 generalize hE:upd H t0 _=H0
 have s0:Same H H0:=by rw [<- hE];exact Zk ht0 _
 clear hE
 refine ⟨q,cs',cc,qual,T',rfl,Z,has.same s0,s0 _ _ hcc,hT H0 _ _ s0 (fun v H' f hn=>?_) (fun C dx word what H' rk ed f hn=>?_)⟩
 ·exact ⟨_,rfl,_,rfl,Yk ⟨_,rfl,(by show 2<=Qi;decide),fun a ha=>f hn a _ (Zk ha _) Zf⟩⟩
 have f:=f hn
 have ed:=Wb hn _ _ ed
 generalize cov H' cs'=H1 at f ed
 obtain ⟨j,R,hw⟩:=rk
 refine ⟨C,dx,rfl,rfl,R.cat,fun ea hea=>?_⟩
 generalize hE:upd H1 ea _=H2
 have eea:H2 ea=some (XO ea C dx):=by rw [<- hE];exact Zf
 have s2:Same H1 H2:=by rw [<- hE];exact Zk hea _
 clear hE
 have ed2:=s2 _ _ ed
 have ty:∀ H',Same H2 H'->TyX K H' (.ref ea) (.ref C):=fun H' s=>.inr ⟨ea,C,dx,rfl,rfl,s _ _ eea,R.g⟩
 refine ⟨_,rfl,_,rfl,_,rfl,ZP ?_⟩
 refine ⟨_,rfl,_,_,_,_,rfl,ty _ (fun _ _ e=>e),.inl ⟨_,rfl,R.is 0 (show 0 < 10 by decide)⟩,_,rfl,_,_,_,_,rfl,ty _ (fun _ _ e=>e),.inl ⟨_,rfl,R.is 1 (show 1 < 10 by decide)⟩,_,rfl,_,_,_,_,rfl,ty _ (fun _ _ e=>e),.inl ⟨_,rfl,R.is 2 (show 2 < 10 by decide)⟩,(by show 3<=Qi;decide),fun l1 hl1=>?_⟩
 generalize hE:upd H2 l1 _=H3
 have s3:Same H2 H3:=by rw [<- hE];exact Zk hl1 _
 have e3:H3 l1=some (.lst [.bl (decide (0=j)),.bl (decide (1=j)),.bl (decide (2=j))]):=by rw [<- hE];exact Zf
 clear hE
 refine ⟨_,rfl,_,rfl,_,_,_,_,rfl,ty _ (s3),.inl ⟨_,rfl,R.is 3 (show 3 < 10 by decide)⟩,_,rfl,_,_,_,_,rfl,ty _ (s3),.inl ⟨_,rfl,R.is 4 (show 4 < 10 by decide)⟩,_,rfl,_,_,_,_,rfl,ty _ (s3),.inl ⟨_,rfl,R.is 5 (show 5 < 10 by decide)⟩,(by show 3<=Qi;decide),fun l6 hl6=>⟨l1,l6,_,_,rfl,rfl,Zk hl6 _ _ _ e3,Zf,Xl (show 6<=1000 by decide),fun l7 hl7=>?_⟩⟩
 generalize hE:upd (upd H3 l6 _) l7 _=H4
 have s4:Same H2 H4:=by rw [<- hE];exact (s3.trans (Zk hl6 _)).trans (Zk hl7 _)
 have e4:H4 l7=some (.lst [.bl (decide (0=j)),.bl (decide (1=j)),.bl (decide (2=j)),.bl (decide (3=j)),.bl (decide (4=j)),.bl (decide (5=j))]):=by rw [<- hE];exact Zf
 clear hE
 refine ⟨_,rfl,_,rfl,_,_,_,_,rfl,ty _ (s4),.inl ⟨_,rfl,R.is 6 (show 6 < 10 by decide)⟩,_,rfl,_,_,_,_,rfl,ty _ (s4),.inl ⟨_,rfl,R.is 7 (show 7 < 10 by decide)⟩,_,rfl,_,_,_,_,rfl,ty _ (s4),.inl ⟨_,rfl,R.is 8 (show 8 < 10 by decide)⟩,(by show 3<=Qi;decide),fun l8 hl8=>⟨l7,l8,_,_,rfl,rfl,Zk hl8 _ _ _ e4,Zf,Xl (show 9<=1000 by decide),fun l9 hl9=>?_⟩⟩
 generalize hE:upd (upd H4 l8 _) l9 _=H5
 have s5:Same H2 H5:=by rw [<- hE];exact (s4.trans (Zk hl8 _)).trans (Zk hl9 _)
 have e5:H5 l9=some (.lst [.bl (decide (0=j)),.bl (decide (1=j)),.bl (decide (2=j)),.bl (decide (3=j)),.bl (decide (4=j)),.bl (decide (5=j)),.bl (decide (6=j)),.bl (decide (7=j)),.bl (decide (8=j))]):=by rw [<- hE];exact Zf
 clear hE
 refine ⟨_,rfl,_,rfl,_,_,_,_,rfl,ty _ s5,.inl ⟨_,rfl,R.is 9 (show 9 < 10 by decide)⟩,_,rfl,(by show 4<=Qi;decide),fun tp htp=>?_⟩
 have s5t:=s5.trans (Zk htp (.tup [.ref (cs.getD 10 0),.ref (cs.getD 11 0),.ref (cs.getD 12 0),.ref (cs.getD 13 0)]))
 refine ⟨ea,C,dx,tp,[cs.getD 10 0,cs.getD 11 0,cs.getD 12 0,cs.getD 13 0],false,rfl,s5t _ _ eea,R.g,Zf,R.no1,(by show 2<=Qi;decide),fun l10 hl10=>⟨l9,l10,_,_,rfl,rfl,Zk hl10 _ _ _ (Zk htp _ _ _ e5),Zf,Xl (show 11<=1000 by decide),fun l11 hl11=>?_⟩⟩
 generalize hE:upd (upd (upd H5 tp _) l10 _) l11 _=H6
 have s6:Same H2 H6:=by rw [<- hE];exact ((s5.trans (Zk htp _)).trans (Zk hl10 _)).trans (Zk hl11 _)
 have e6:H6 l11=some (.lst [.bl (decide (0=j)),.bl (decide (1=j)),.bl (decide (2=j)),.bl (decide (3=j)),.bl (decide (4=j)),.bl (decide (5=j)),.bl (decide (6=j)),.bl (decide (7=j)),.bl (decide (8=j)),.bl (decide (9=j)),.bl false]):=by rw [<- hE];exact Zf
 clear hE
 refine ⟨_,rfl,_,rfl,(by show 3<=Qi;decide),fun tq htq=>?_⟩
 have s6t:=s6.trans (Zk htq (.tup [.ref (cs.getD 14 0),.ref (cs.getD 15 0),.ref (cs.getD 16 0)]))
 refine ⟨ea,C,dx,tq,[cs.getD 14 0,cs.getD 15 0,cs.getD 16 0],false,rfl,s6t _ _ eea,R.g,Zf,R.no2,(by show 1<=Qi;decide),fun l12 hl12=>⟨l11,l12,_,_,rfl,rfl,Zk hl12 _ _ _ (Zk htq _ _ _ e6),Zf,Xl (show 12<=1000 by decide),fun l13 hl13=>?_⟩⟩
 generalize hE:upd (upd (upd H6 tq _) l12 _) l13 _=H7
 have s7:Same H2 H7:=by rw [<- hE];exact ((s6.trans (Zk htq _)).trans (Zk hl12 _)).trans (Zk hl13 _)
 have e7:H7 l13=some (.lst ((kBs j).map V.bl)):=by rw [<- hE];exact Zf
 clear hE
 refine ⟨(by show 12<=Qi;decide),fun lw hlw=>?_⟩
 generalize hE:upd H7 lw _=H8
 have s8:Same H7 H8:=by rw [<- hE];exact Zk hlw _
 have ew:H8 lw=some (.lst ((xWd++(["odd","odd"]:List Str)).map V.str)):=by rw [<- hE];exact Zf
 clear hE
 have e8:=s8 _ _ e7
 have hj:j < 10:=(Qf.mp hw).1
 have k1:=kcnt ⟨j,hj⟩
 have k2:=kat ⟨j,hj⟩
 have k3:∀ m,m < j->(kBs j)[m]?=some false:=fun m hm=>kno ⟨j,hj⟩ ⟨m,by omega⟩ hm
 refine ⟨_,rfl,.inl ⟨rfl,_,SqL.of e8⟩,l13,kBs j,rfl,rfl,SqL.of e8,?_⟩
 rw [show ((kBs j).filter id).length=1 from k1]
 refine ⟨rfl,_,rfl,ZP ?_⟩
 refine ⟨_,rfl,_,_,_,true,rfl,ty _ (s7.trans s8),.inr ⟨_,rfl,R.ve⟩,_,rfl,ZP ?_⟩
 refine ⟨_,rfl,_,rfl,.inl ⟨rfl,_,SqL.of e8⟩,l13,kBs j,j,rfl,rfl,SqL.of e8,k2,k3,by omega,?_⟩
 refine ⟨lw,_,_,_,rfl,rfl,SqL.of ew,ZE (by rw [getElem?_map,getElem?_append_left (show j < xWd.length from hj),hw];rfl),?_⟩
 refine ⟨_,rfl,ea,C,dx,_,_,rfl,s8 _ _ (s7 _ _ eea),s8 _ _ (s7 _ _ ed2),R.g,rfl,(by show 3<=Qi;decide),fun a ha=>?_⟩
 exact f a _ (((s2.trans s7).trans s8).trans (Zk ha _)) Zf
end
end K36
namespace L2
open PySem
theorem UD {H:Hp}{a:Addr}{vs:List V}(e:H a=some (.tup vs))(h:∀ v∈vs,Ym v)(hl:vs.length<=1000):DataOf H (.ref a) (.tuple (vs.map YE))/\(Nh (vs.map YE)).showable=true/\(Nh (vs.map YE)).shown.length<=Qi/\(Nh (vs.map YE)).depth<=60:=by
 have s:=ZcW (ds:=vs.map YE) (n:=200) (k:=0) fun d hd=>by
  obtain ⟨v,hv,rfl⟩:=mem_map.mp hd
  exact Zbo (h v hv) 0
 refine ⟨.tup e (ZcE h),s.sh,Qn s.ln ?_,Qn s.dp (by decide)⟩
 rw [length_map]
 have:vs.length * (200+2)<=1000 * 202:=JI _ hl
 rw [QU];omega
theorem ZdB {n:Nat}(h:n<=1000000):Ym (nI n):=.inr (show ((n:Int)).natAbs < 10 ^ 30 by omega)
theorem VF {x:Str}(h:Zdv (.str x)=true):Ym (.str x):=.inr (ZaD h)
def ScR (K:Qa)(ns:List Int):Yw:=fun a h=>SqL K h a (ns.map V.int)
theorem ZoR {K:Qa}{H H':Hp}{a:Addr}{xs:List V}(h:SqL K H a xs)(s:Same H H'):SqL K H' a xs:=by
 rcases h with (h | ⟨o,h⟩) | h
 ·exact .inl (.inl (s _ _ h))
 ·exact .inl (.inr ⟨o,s _ _ h⟩)
 ·exact .inr h
instance {K:Qa} {ns:List Int}:Up (ScR K ns):=⟨fun h s=>ZoR h s⟩
def Yf (qs:List (Str×V)):List (Zn×V):=qs.map fun p=>(Qu p.1,p.2)
theorem ZkL (qs rs:List (Str×V)):Yf (qs++rs)=Yf qs++Yf rs:=map_append
theorem UV (x:Str):∀ qs:List (Str×V),ZD (Yf qs) (Qu x)=(qs.find? fun p=>decide (p.1=x)).map (·.2)
 | []=>rfl
 | p :: r=>by
  unfold Yf ZD
  rw [map_cons,find?_cons,find?_cons]
  by_cases h:p.1=x
  ·rw [decide_eq_true (show (Qu p.1:Zn)=Qu x by rw [h]),decide_eq_true h];rfl
  ·rw [decide_eq_false (show ¬ (Qu p.1:Zn)=Qu x from fun z=>h (JZ z)),decide_eq_false h]
   exact UV x r
theorem ZiE {x:Str}{qs:List (Str×V)}(h:x ∉ qs.map (·.1)):ZD (Yf qs) (Qu x)=none:=by
 rw [UV]
 have:(qs.find? fun p=>decide (p.1=x))=none:=List.find?_eq_none.mpr fun p hp z=>h (mem_map.mpr ⟨p,hp,by simpa using z⟩)
 rw [this];rfl
theorem Ue {x:Str}{v:V}:∀{qs:List (Str×V)},(qs.map (·.1)).Nodup->(x,v)∈qs->ZD (Yf qs) (Qu x)=some v
 | p :: r,nd,m=>by
  rw [UV,find?_cons]
  rcases mem_cons.mp m with e | m
  ·subst e;simp
  ·have hp:¬ p.1=x:=fun z=>(nodup_cons.mp nd).1 (mem_map.mpr ⟨(x,v),m,z.symm⟩)
   rw [decide_eq_false hp]
   have:=Ue (x:=x) (v:=v) (nodup_cons.mp nd).2 m
   rw [UV] at this;exact this
theorem Zco {x:Str}{v:V}{qs:List (Str×V)}(h:x ∉ qs.map (·.1)):Yp (Yf qs) (Qu x) v=Yf (qs++[(x,v)]):=by
 unfold Yp
 rw [if_neg,ZkL];rfl
 simp only [Yf,List.any_map,Nx,Function.comp,decide_eq_true_eq,not_exists,not_and]
 exact fun p hp z=>h (mem_map.mpr ⟨p,hp,JZ z⟩)
end L2
namespace K36
open PySem L2
section
variable {P:Qk}{w:Qv}{K:Qa}{mg:Str->Option Qb}{base:Heap}{CH CR CS CT:Addr}{C:Addr}
def Zcl (K:Qa)(C:Addr):Sp:=fun vs H Q _=>∃(NS:List Str)(st:Addr)(nds:List Nd)(tabs:List (Zn×V))(t:Nat)(x:Str)(F:Str->Option V),Yq NS/\vs=[.ref st,iN t,.str x]/\Uq K C nds tabs st H/\(ZD tabs (QT (t:Int))).isSome=true/\Tri NS nds F 5 0 0 t/\x∈NS/\∀ H',Same H H'->Q ((F x).getD .non) H'
theorem Znl {f:Addr}{fd:Qm}{k:Nat}{ps:List Str}(h:FnOk P w K mg base ZC k f fd ps (WZ K C)):FnOk P w K mg base ZC k f fd ps (Zcl K C) :=
 h.conv fun vs H Q E ⟨NS,st,nds,tabs,t,x,F,N,e,⟨b0,ln,dt,S⟩,h1,h2,hx,q⟩=>by
  obtain ⟨ws,z,n,e1,e2,e3,e4,e5⟩:=Vn N h2 hx
  exact ⟨st,ln,dt,nds,tabs,t,x,6,ws,z,n,e,S,h1,N.len x hx,N.lo x hx,by decide,e1,e2,e3,e4,fun H' s=>by rw [e5];exact q H' s⟩
def ZkC (K:Qa)(CR CS:Addr):Sp:=fun vs H Q _=>∃(NS:List Str)(r:Addr)(pls:List Yn)(nds:List Nd)(tabs:List (Zn×V))(k:Nat)(x:Str)(F:Str->Option V),vs=[.ref r,.int (k:Int),.str x]/\Yq NS/\RdR K CR CS r pls nds tabs H/\RInv NS pls nds tabs/\k<=pls.length/\(envs pls)[k]?=some F/\x∈NS/\∀ H',Same H H'->Q ((F x).getD .non) H'
abbrev nRLk:List Str:=["self","place","name"]
abbrev Zgb:List Str:=["self","place","name"]
theorem ZoN:Zm nRLk Zgb (Zj c_Roads_looked):=⟨rfl,rfl,rfl,by decide +kernel,rfl,by decide +kernel,by decide +kernel⟩
theorem Zop {f:Addr}{fd:Qm}(F:Fun K "looked" "Roads.looked" c_Roads_looked f fd)(T:ZY mg)(TR:Wg K CR)(TC:Xr K CS)(DR_table:DefM P w K mg base 9 CR "table" Zdz (Zcm K CR CS))(DS_looked:DefM P w K mg base 9 CS "looked" ["self","table","name"] (Zcl K CS)):FnOk P w K mg base ZC 10 f fd Zgb (ZkC K CR CS):=by
 refine F.ok ZoN (fun vs H Q E h=>?_) (fun cdv A outer s H vs Q E hr h=>?_)
 ·obtain ⟨NS,r,pls,nds,tabs,k,x,G,rfl,_⟩:=h;rfl
 obtain ⟨NS,r,pls,nds,tabs,k,x,G,rfl,N,R,I,hk,hG,hx,q⟩:=h
 obtain ⟨st,la,ls,lt,lc,S⟩:=id R
 obtain ⟨dx,ob⟩:=S.get r
 have ST:=S.get st
 obtain ⟨b0,ln,dt,SA⟩:=id ST
 obtain ⟨dxs,obs⟩:=SA.ob
 obtain ⟨g1,g2,g3⟩:=I.tr k G _ hG (WK hk)
 refine' ⟨?t,?h,?r⟩
 case h =>
  conv=>arg 2;whnf
  with_reducible refine' (Zh ?h1)
  case h1=>exact Zq (ZH DS_looked TC.cl hr (Zu (pv 0) rfl) (Zb (ZH DR_table TR.cl hr (pv 0) (Zb (pv 1) Za)) (Zb (pv 2) Za)))
 try dsimp only [ZQ,Cx.nox]
 exact ⟨_,rfl,r,CR,dx,_,_,rfl,ob,TR.cl,TR.nk,ZbW,st,dxs,_,rfl,obs,ZW ln dt (by decide +kernel) (by decide +kernel),_,rfl,r,dx,_,rfl,ob,XA (by decide +kernel),_,rfl,r,pls,nds,tabs,k,rfl,R,hk,_,rfl,NS,st,nds,tabs,tbN pls k,x,G,N,rfl,ST,g1,g2,hx,q⟩
structure HI (NS:List Str)(s:Hs):Prop where
 N:Yq NS
 R:RInv NS s.pls s.nds s.tabs
 sp:∀ p∈s.spots,p<=s.pls.length
def Zdm (K:Qa)(CH CR CS CT:Addr):Sp:=fun vs H Q _=>∃(NS:List Str)(h:Addr)(s:Hs)(k p:Nat)(x:Str)(F:Str->Option V),vs=[.ref h,.int (k:Int),.str x]/\UF K CH CR CS CT h s H/\HI NS s/\s.spots[k]?=some p/\(envs s.pls)[p]?=some F/\x∈NS/\∀ H',Same H H'->Q ((F x).getD .non) H'
abbrev nHVi:List Str:=["self","world","name"]
abbrev Zbs:List Str:=["self","world","name"]
theorem ZoU:Zm nHVi Zbs (Zj c_Hall_value_in):=⟨rfl,rfl,rfl,by decide +kernel,rfl,by decide +kernel,by decide +kernel⟩
theorem Zof {f:Addr}{fd:Qm}(F:Fun K "value_in" "Hall.value_in" c_Hall_value_in f fd)(T:ZY mg)(TH:Xg K CH)(TR:Wg K CR)(DH_place:DefM P w K mg base 10 CH "place" Zai (Zbw K CH CR CS CT))(DR_looked:DefM P w K mg base 10 CR "looked" Zgb (ZkC K CR CS)):FnOk P w K mg base ZC 11 f fd Zbs (Zdm K CH CR CS CT):=by
 refine F.ok ZoU (fun vs H Q E h=>?_) (fun cdv A outer s H vs Q E hr h=>?_)
 ·obtain ⟨NS,h,s,k,p,x,G,rfl,_⟩:=h;rfl
 obtain ⟨NS,h,s,k,p,x,G,rfl,R,I,hk,hG,hx,q⟩:=h
 obtain ⟨d,r,sp,i,t,S⟩:=id R
 obtain ⟨dx,ob⟩:=S.get h
 have RR:=S.get r
 obtain ⟨st,la,ls,lt,lc,SR⟩:=id RR
 obtain ⟨dxr,obr⟩:=SR.get r
 refine' ⟨?t,?h,?r⟩
 case h =>
  conv=>arg 2;whnf
  with_reducible refine' (Zh ?h1)
  case h1=>exact Zq (ZH DR_looked TR.cl hr (Zu (pv 0) rfl) (Zb (ZH DH_place TH.cl hr (pv 0) (Zb (pv 1) Za)) (Zb (pv 2) Za)))
 try dsimp only [ZQ,Cx.nox]
 exact ⟨_,rfl,h,CH,dx,_,_,rfl,ob,TH.cl,TH.nw,ZdU,r,dxr,_,rfl,obr,XA (by decide +kernel),_,rfl,h,dx,_,rfl,ob,Yg (by decide +kernel),_,rfl,h,s,k,p,rfl,R,hk,_,rfl,NS,r,s.pls,s.nds,s.tabs,p,x,G,rfl,I.N,RR,I.R,I.sp p (mem_of_getElem? hk),hG,hx,q⟩
def Uw (o:Option V)(d:V):V:=o.getD d
def Zkk (K:Qa)(CH CR CS CT:Addr):Sp:=fun vs H Q _=>∃(NS:List Str)(h:Addr)(s:Hs)(k p:Nat)(x:Str)(F:Str->Option V)(d:V),vs=[.ref h,.int (k:Int),.str x]/\UF K CH CR CS CT h s H/\HI NS s/\s.spots[k]?=some p/\(envs s.pls)[p]?=some F/\x∈NS/\ZD s.dfs (Qu x)=some d/\∀ H',Same H H'->Q (Uw (F x) d) H'
abbrev nHVo:List Str:=["self","world","name","value"]
abbrev Zge:List Str:=["self","world","name"]
theorem scHVo:Zm nHVo Zge (Zj c_Hall_value_or_default):=⟨rfl,rfl,rfl,by decide +kernel,rfl,by decide +kernel,by decide +kernel⟩
theorem Zmm {f:Addr}{fd:Qm}(F:Fun K "value_or_default" "Hall.value_or_default" c_Hall_value_or_default f fd)(T:ZY mg)(TH:Xg K CH)(DH_value_in:DefM P w K mg base 11 CH "value_in" Zbs (Zdm K CH CR CS CT)):FnOk P w K mg base ZC 12 f fd Zge (Zkk K CH CR CS CT):=by
 refine F.ok scHVo (fun vs H Q E h=>?_) (fun cdv A outer s H vs Q E hr h=>?_)
 ·obtain ⟨NS,h,s,k,p,x,G,d,rfl,_⟩:=h;rfl
 obtain ⟨NS,h,s,k,p,x,G,d,rfl,R,I,hk,hG,hx,hd,q⟩:=h
 obtain ⟨dd,r,sp,i,t,S⟩:=id R
 obtain ⟨dx,ob⟩:=S.get h
 have hv:=(I.R.tr p G _ hG (WK (I.sp p (mem_of_getElem? hk)))).2.2
 refine' ⟨?t,?h,?r⟩
 case h =>
  conv=>arg 2;whnf
  with_reducible refine' (Ze ?h1 (Zh ?h2))
  case h1=>exact Zv (i:=3) scHVo.nd rfl (Qz rfl) (ZH DH_value_in TH.cl hr (pv 0) (Zb (pv 1) (Zb (pv 2) Za)))
  case h2=>exact Zq (Yo (Xa (Wh (pv 3))) (Xm (YL hr) (Zu (pv 0) rfl) (pv 2) (fun _ _=>rfl)) (pv 3))
 try dsimp only [ZQ,Cx.nox]
 refine zs2 ?_
 intro zD zS zN1
 refine ⟨_,rfl,h,dx,_,rfl,ob,Yg (by decide +kernel),_,rfl,_,rfl,NS,h,s,k,p,x,G,rfl,R,I,hk,hG,hx,fun H1 s1=>?_⟩
 cases e:G x with
 | none =>
  refine ⟨_,rfl,_,rfl,Yk ?_⟩
  have S1:=S.mono s1
  obtain ⟨dx1,ob1⟩:=S1.get h
  have:=q H1 s1
  rw [e] at this
  exact ⟨_,rfl,h,CH,dx1,_,_,rfl,ob1,TH.cl,TH.nd,Zgz,_,rfl,dd,_,rfl,(by have z:=DGet.k (k:=Qu x) (S1.get dd);rw [hd] at z;exact z),this⟩
 | some u =>
  have hu:=hv x u e
  have:=q H1 s1
  rw [e] at this
  have hne:decide (u=V.non)=false:=decide_eq_false fun z=>by rw [z] at hu;exact hu
  refine ⟨_,rfl,_,rfl,?_⟩
  show if decide (u=V.non)=true then _ else _
  rw [hne]
  exact ZP ⟨_,rfl,this⟩
def Zdu (K:Qa)(CH CR CS CT CX:Addr):Sp:=fun vs H Q E=>∃ (h:Addr) (s:Hs) (x:Str),vs=[.ref h,.str x]/\UF K CH CR CS CT h s H/\((ZD s.dfs (Qu x)).isSome=true->Q .non H)/\(ZD s.dfs (Qu x)=none->∀ dx H',Same H H'->H' dx=some (.xd [("what",.str x)])->E (.ref CX) (some dx) H')
abbrev nHCs:List Str:=["self","name"]
abbrev Vg:List Str:=["self","name"]
theorem ZpF:Zm nHCs Vg (Zj c_Hall_check_setting):=⟨rfl,rfl,rfl,by decide +kernel,rfl,by decide +kernel,by decide +kernel⟩
theorem ZhK {CX:Addr}{f:Addr}{fd:Qm}(F:Fun K "check_setting" "Hall.check_setting" c_Hall_check_setting f fd)(T:ZY mg)(TH:Xg K CH)(DE:ZaE P w K mg base 1 CX "NoSetting"):FnOk P w K mg base (Uz P w base) 3 f fd Vg (Zdu K CH CR CS CT CX):=by
 refine F.okX ZpF (fun vs H Q E h=>?_) (fun cdv A outer s H vs Q E hr h W=>?_)
 ·obtain ⟨h,s,x,rfl,_⟩:=h;rfl
 obtain ⟨h,s,x,rfl,⟨d,r,sp,i,t,S⟩,q1,q2⟩:=h
 obtain ⟨dx,ob⟩:=S.get h
 refine' ⟨?t,?h,?r⟩
 case h =>
  conv=>arg 2;whnf
  with_reducible refine' (Zh (ZZ ?h1 (Zh ?h2) ZM))
  case h1=>exact Xa (ZcV (YL hr) (pv 1) (Zu (pv 0) rfl))
  case h2=>exact ZaI W DE hr rfl (Zb (pv 1) Za)
 try dsimp only [ZQ,Cx.nox]
 refine ⟨_,rfl,_,rfl,h,CH,dx,_,_,rfl,ob,TH.cl,TH.nd,Zgz,d,_,rfl,DGet.k (k:=Qu x) (S.get d),_,rfl,?_⟩
 cases e:ZD s.dfs (Qu x) with
 | none=>exact Yk ⟨_,rfl,_,rfl,fun d hd=>q2 e d _ (Zk hd _) Zf⟩
 | some v=>exact ZP (q1 (by rw [e];rfl))
def Zkz (K:Qa)(CH CR CS CT CX:Addr):Sp:=fun vs H Q E=>∃ (h:Addr) (s:Hs) (qs:List (Str×V)) (x:Str) (v:V) (Δ:Rs),vs=[.ref h,.str x,v]/\Sep ((h,Xf K CH CR CS CT s)::Δ) H/\s.dfs=Yf qs/\qs.length<=1000/\(x∈qs.map (·.1)->∀ dx H',Same H H'->H' dx=some (.xd [("what",.str x)])->E (.ref CX) (some dx) H') /\
 (x ∉ qs.map (·.1)->∀ H',Sep ((h,Xf K CH CR CS CT { s with dfs:=Yf (qs++[(x,v)]) })::Δ) H'->Q .non H')
abbrev nHDe:List Str:=["self","name","default"]
abbrev Zdj:List Str:=["self","name","default"]
theorem ZoP:Zm nHDe Zdj (Zj c_Hall_declare):=⟨rfl,rfl,rfl,by decide +kernel,rfl,by decide +kernel,by decide +kernel⟩
theorem ZmS {CX:Addr}{f:Addr}{fd:Qm}(F:Fun K "declare" "Hall.declare" c_Hall_declare f fd)(T:ZY mg)(TH:Xg K CH)(DE:ZaE P w K mg base 1 CX "Known"):FnOk P w K mg base (Uz P w base) 3 f fd Zdj (Zkz K CH CR CS CT CX):=by
 refine F.okX ZoP (fun vs H Q E h=>?_) (fun cdv A outer s H vs Q E hr h W=>?_)
 ·obtain ⟨h,s,qs,x,v,Δ,rfl,_⟩:=h;rfl
 obtain ⟨h,s,qs,x,v,Δ,rfl,S0,hqs,hl,q1,q2⟩:=h
 obtain ⟨d,r,sp,i,t,S⟩:=S0.halO
 obtain ⟨dx,ob⟩:=S.get h
 refine' ⟨?t,?h,?r⟩
 case h =>
  conv=>arg 2;whnf
  with_reducible refine' (Ze (ZZ ?h1 (Zh ?h2) ZM) (Zh ?h3))
  case h1=>exact Xa (Zod (YL hr) (pv 1) (Zu (pv 0) rfl))
  case h2=>exact ZaI W DE hr rfl (Zb (pv 1) Za)
  case h3=>exact Vb (YL hr) (Zu (pv 0) rfl) (pv 1) (pv 2) rfl
 try dsimp only [ZQ,Cx.nox]
 refine zs2 ?_
 intro zD zS zN1
 refine ⟨_,rfl,_,rfl,h,CH,dx,_,_,rfl,ob,TH.cl,TH.nd,Zgz,d,_,rfl,DGet.k (k:=Qu x) (S.get d),_,rfl,?_⟩
 by_cases hm:x∈qs.map (·.1)
 ·have e:(ZD s.dfs (Qu x)).isSome=true:=by
   rw [hqs,UV]
   obtain ⟨p,hp,rfl⟩:=mem_map.mp hm
   cases z:qs.find? fun q=>decide (q.1=p.1) with
   | none=>exact absurd (decide_eq_true rfl) (List.find?_eq_none.mp z p hp)
   | some v=>rfl
  rw [e]
  exact Yk ⟨_,rfl,_,rfl,fun d hd=>q1 hm d _ (Zk hd _) Zf⟩
 ·have e:ZD s.dfs (Qu x)=none:=by rw [hqs];exact ZiE hm
  rw [e]
  refine ZP ⟨_,rfl,_,rfl,h,CH,dx,_,_,rfl,ob,TH.cl,TH.nd,Zgz,_,rfl,d,_,rfl,.inl ⟨_,Qu x,S.get d,rfl,YG (show _<=1000 by rw [hqs];unfold Yf;rw [length_map];exact hl),rfl⟩,?_⟩
  generalize hE:upd H d _=H2
  have S2:=S.putE hE
  clear hE
  rw [hqs,Zco hm] at S2
  exact q2 hm _ (Sep.halC (s:={ s with dfs:=Yf (qs++[(x,v)]) }) (d:=d) (r:=r) (sp:=sp) (i:=i) (t:=t) (S2.pull h))
def Zgw (K:Qa)(CH CR CS CT CX CM:Addr):Sp:=fun vs H Q E=>∃(NS:List Str)(h:Addr)(s:Hs)(k p:Nat)(x:Str)(F:Str->Option V),vs=[.ref h,.int (k:Int),.str x]/\UF K CH CR CS CT h s H/\HI NS s/\s.spots[k]?=some p/\(envs s.pls)[p]?=some F/\x∈NS /\
 (ZD s.dfs (Qu x)=none->∀ dx H',Same H H'->H' dx=some (.xd [("what",.str x)])->E (.ref CX) (some dx) H') /\
 ∀ d,ZD s.dfs (Qu x)=some d->(Uw (F x) d=.non->∀ dx H',Same H H'->H' dx=some (.xd [("what",.str x)])->E (.ref CM) (some dx) H')/\(Uw (F x) d≠.non->∀ H',Same H H'->Q (Uw (F x) d) H')
abbrev nHLi:List Str:=["self","world","name","value"]
abbrev Zdq:List Str:=["self","world","name"]
theorem scHLi:Zm nHLi Zdq (Zj c_Hall_look_in):=⟨rfl,rfl,rfl,by decide +kernel,rfl,by decide +kernel,by decide +kernel⟩
theorem Zos {CX CM:Addr}{f:Addr}{fd:Qm}(F:Fun K "look_in" "Hall.look_in" c_Hall_look_in f fd)(T:ZY mg)(TH:Xg K CH)(DH_check_world:DefM P w K mg base 12 CH "check_world" Zdh (ZgJ K CH CR CS CT))(DH_check_setting:DefMX P w K mg base 12 CH "check_setting" Vg (Zdu K CH CR CS CT CX))(DH_value_or_default:DefM P w K mg base 12 CH "value_or_default" Zge (Zkk K CH CR CS CT))(DE:ZaE P w K mg base 11 CM "Missing"):FnOk P w K mg base (Uz P w base) 13 f fd Zdq (Zgw K CH CR CS CT CX CM):=by
 refine F.okX scHLi (fun vs H Q E h=>?_) (fun cdv A outer s H vs Q E hr h W=>?_)
 ·obtain ⟨NS,h,s,k,p,x,G,rfl,_⟩:=h;rfl
 obtain ⟨NS,h,s,k,p,x,G,rfl,R,I,hk,hG,hx,q1,q2⟩:=h
 obtain ⟨dd,r,sp,i,t,S⟩:=id R
 obtain ⟨dx,ob⟩:=S.get h
 refine' ⟨?t,?h,?r⟩
 case h =>
  conv=>arg 2;whnf
  with_reducible refine' (Ze ?h1 (Ze ?h2 (Ze ?h3 (Ze (ZZ ?h4 (Zh ?h5) ZM) (Zh ?h6)))))
  case h1=>exact ZU (ZH DH_check_world TH.cl hr (pv 0) (Zb (pv 1) Za))
  case h2=>exact ZU (ZfM W DH_check_setting TH.cl hr (pv 0) (Zb (pv 2) Za))
  case h3=>exact Zv (i:=3) scHLi.nd rfl (Qz rfl) (ZH DH_value_or_default TH.cl hr (pv 0) (Zb (pv 1) (Zb (pv 2) Za)))
  case h4=>exact Xa (Wh (pv 3))
  case h5=>exact ZaI W DE hr rfl (Zb (pv 2) Za)
  case h6=>exact Zq (pv 3)
 try dsimp only [ZQ,Cx.nox]
 refine zs5 ?_
 intro zD zS zN4 zN3 zN2 zN1
 refine ⟨_,rfl,h,dx,_,rfl,ob,Yg (by decide +kernel),_,rfl,h,s,k,rfl,R,(Qf.mp hk).1,?_⟩
 refine ⟨_,rfl,h,dx,_,rfl,ob,Yg (by decide +kernel),_,rfl,h,s,x,rfl,R,fun hs=>?_,q1⟩
 obtain ⟨d,hd⟩:=JQ.mp hs
 obtain ⟨g1,g2⟩:=q2 d hd
 refine ⟨_,rfl,h,dx,_,rfl,ob,Yg (by decide +kernel),_,rfl,_,rfl,NS,h,s,k,p,x,G,d,rfl,R,I,hk,hG,hx,hd,fun H1 s1=>?_⟩
 generalize Uw (G x) d=u at g1 g2
 refine ⟨_,rfl,_,rfl,XJ (fun c=>?_) (fun c=>?_)⟩
 ·exact ⟨_,rfl,_,rfl,fun dx hd=>g1 (of_decide_eq_true c) dx _ (s1.trans (Zk hd _)) Zf⟩
 ·exact ⟨_,rfl,g2 (fun z=>c (decide_eq_true z)) H1 s1⟩
def Zgm (K:Qa)(CH CR CS CT CX CM:Addr):Sp:=fun vs H Q E=>∃(NS:List Str)(h:Addr)(s:Hs)(k p:Nat)(x:Str)(F:Str->Option V),vs=[.ref h,.str x]/\UF K CH CR CS CT h s H/\HI NS s/\s.ins.getLast?=some k/\s.spots[k]?=some p/\(envs s.pls)[p]?=some F/\x∈NS /\
 (ZD s.dfs (Qu x)=none->∀ dx H',Same H H'->H' dx=some (.xd [("what",.str x)])->E (.ref CX) (some dx) H') /\
 ∀ d,ZD s.dfs (Qu x)=some d->(Uw (F x) d=.non->∀ dx H',Same H H'->H' dx=some (.xd [("what",.str x)])->E (.ref CM) (some dx) H')/\(Uw (F x) d≠.non->∀ H',Same H H'->Q (Uw (F x) d) H')
abbrev nHLo:List Str:=["self","name"]
abbrev Zdg:List Str:=["self","name"]
theorem ZoK:Zm nHLo Zdg (Zj c_Hall_look):=⟨rfl,rfl,rfl,by decide +kernel,rfl,by decide +kernel,by decide +kernel⟩
theorem ZnO {CX CM:Addr}{f:Addr}{fd:Qm}(F:Fun K "look" "Hall.look" c_Hall_look f fd)(T:ZY mg)(TH:Xg K CH)(DH_now:DefM P w K mg base 13 CH "now" Zae (ZbN K CH CR CS CT))(DH_look_in:DefMX P w K mg base 13 CH "look_in" Zdq (Zgw K CH CR CS CT CX CM)):FnOk P w K mg base (Uz P w base) 14 f fd Zdg (Zgm K CH CR CS CT CX CM):=by
 refine F.okX ZoK (fun vs H Q E h=>?_) (fun cdv A outer s H vs Q E hr h W=>?_)
 ·obtain ⟨NS,h,s,k,p,x,G,rfl,_⟩:=h;rfl
 obtain ⟨NS,h,s,k,p,x,G,rfl,R,I,hn,hk,hG,hx,q1,q2⟩:=h
 obtain ⟨dd,r,sp,i,t,S⟩:=id R
 obtain ⟨dx,ob⟩:=S.get h
 refine' ⟨?t,?h,?r⟩
 case h =>
  conv=>arg 2;whnf
  with_reducible refine' (Zh ?h1)
  case h1=>exact Zq (ZfM W DH_look_in TH.cl hr (pv 0) (Zb (WT DH_now TH.cl hr (pv 0)) (Zb (pv 1) Za)))
 try dsimp only [ZQ,Cx.nox]
 exact ⟨_,rfl,h,dx,_,rfl,ob,Yg (by decide +kernel),_,rfl,h,dx,_,rfl,ob,Yg (by decide +kernel),h,s,k,rfl,R,hn,_,rfl,NS,h,s,k,p,x,G,rfl,R,I,hk,hG,hx,q1,q2⟩
end
end K36
namespace L2
open PySem
theorem Zfq {X:Cx}{e:Expr}{f:Str}{pos:Pos}{ta:TE}{K:Qa}(hK:X.K=K)(he:PE X e ta)(hb:Jq e f X.env (eval e X.env)=eval e X.env):PE X (.Attribute e f pos) (tFld K ta f):=by
 subst hK;exact Zu he hb
def TLs (H:Hp)(as:List Addr)(tss:List (List V)):Prop:=as.length=tss.length/\∀(i:Nat)(a:Addr)(ts:List V),as[i]?=some a->tss[i]?=some ts->H a=some (.tup ts)
def TL (tss:List (List V)):Yw:=fun l h=>∃ as:List Addr,h l=some (.lst (as.map V.ref))/\TLs h as tss
theorem TLs.up {H H':Hp}{as:List Addr}{tss:List (List V)}(h:TLs H as tss)(s:Same H H'):TLs H' as tss:=⟨h.1,fun i a x e1 e2=>s _ _ (h.2 i a x e1 e2)⟩
instance {tss:List (List V)}:Up (TL tss):=⟨fun ⟨as,e,h⟩ s=>⟨as,s _ _ e,h.up s⟩⟩
theorem TLs.at {H:Hp}{as:List Addr}{tss:List (List V)}(h:TLs H as tss){i:Nat}{ts:List V}(e:tss[i]?=some ts):∃ a,as[i]?=some a/\H a=some (.tup ts):=by
 have hi:=(Qf.mp e).1
 exact ⟨_,getElem?_eq_getElem (by rw [h.1];exact hi),h.2 i _ ts (getElem?_eq_getElem (by rw [h.1];exact hi)) e⟩
theorem TLs.atV {H:Hp}{as:List Addr}{tss:List (List V)}(h:TLs H as tss){i:Nat}{ts:List V}(e:tss[i]?=some ts):∃ a,(as.map V.ref)[i]?=some (.ref a)/\H a=some (.tup ts):=by
 obtain ⟨a,e1,e2⟩:=h.at e
 exact ⟨a,by rw [getElem?_map,e1];rfl,e2⟩
theorem TLs.app {H:Hp}{as:List Addr}{tss:List (List V)}{a:Addr}{ts:List V}(h:TLs H as tss)(e:H a=some (.tup ts)):TLs H (as++[a]) (tss++[ts]):=by
 refine ⟨by rw [length_append,length_append,h.1];rfl,fun i b x q1 q2=>?_⟩
 by_cases hi:i < as.length
 ·rw [getElem?_append_left hi] at q1
  rw [getElem?_append_left (by rw [<- h.1];exact hi)] at q2
  exact h.2 i b x q1 q2
 ·rw [getElem?_append_right (by omega)] at q1
  rw [getElem?_append_right (by rw [<- h.1];omega),<- h.1] at q2
  cases z:i - as.length with
  | zero=>rw [z] at q1 q2;cases q1;cases q2;exact e
  | succ j=>rw [z] at q1;cases q1
theorem TLs.set {H:Hp}{as:List Addr}{tss:List (List V)}{a:Addr}{ts:List V}(h:TLs H as tss)(e:H a=some (.tup ts))(j:Nat):TLs H (as.set j a) (tss.set j ts):=by
 refine ⟨by rw [length_set,length_set,h.1],fun i b x q1 q2=>?_⟩
 rw [getElem?_set] at q1 q2
 by_cases hij:j=i
 ·rw [if_pos hij] at q1 q2
  split at q1
  ·split at q2
   ·cases q1;cases q2;exact e
   ·cases q2
  ·cases q1
 ·rw [if_neg hij] at q1 q2
  exact h.2 i b x q1 q2
theorem TLs.init {H:Hp}{as:List Addr}{tss:List (List V)}{ts:List V}(h:TLs H as (tss++[ts])):∃ bs b,as=bs++[b]/\TLs H bs tss/\H b=some (.tup ts):=by
 have hl:=h.1
 rw [length_append,length_singleton] at hl
 obtain ⟨bs,b,rfl⟩:∃ bs b,as=bs++[b]:=⟨as.dropLast,as.getLast (fun z=>by rw [z] at hl;cases hl),(Te _).symm⟩
 rw [length_append,length_singleton] at hl
 have hl:bs.length=tss.length:=by omega
 refine ⟨bs,b,rfl,⟨hl,fun i a x q1 q2=>?_⟩,?_⟩
 ·have h1:=(Qf.mp q1).1
  exact h.2 i a x (by rw [getElem?_append_left h1];exact q1) (by rw [getElem?_append_left (by omega)];exact q2)
 ·exact h.2 bs.length b ts (by simp) (by rw [hl];simp)
theorem Sep.tlPut {Δ Δ':Rs}{H H2:Hp}{tss tss':List (List V)}{l:Addr}(S:Sep Δ H){as':List Addr}{o:HO}(e:upd H l o=H2)(ho:o=.lst (as'.map V.ref))[P:Pull l Δ (TL tss) Δ'](hs:TLs H as' tss'):Sep ((l,TL tss')::Δ') H2:=by
 subst e;subst ho
 refine S.updR l _ (fun h ⟨as,e,_⟩=>⟨_,e,rfl⟩) fun h r l' h' e1 e2 e3=>⟨as',e1,hs.1,fun i a ts q1 q2=>?_⟩
 have ha:=hs.2 i a ts q1 q2
 refine e3 _ _ (fun z=>?_) ha rfl
 obtain ⟨as,e4,_⟩:=r
 have:=l' _ _ e4
 rw [<- z,ha] at this
 cases this
theorem Sep.perm {L L':Rs}(p:L.Perm L'):∀{H:Hp},Sep L H->Sep L' H:=by
 induction p with
 | nil=>exact fun S=>S
 | cons x _ ih=>exact fun ⟨h,l,r,S⟩=>⟨h,l,r,ih S⟩
 | swap x y l=>exact fun S=>S.swap
 | trans _ _ h1 h2=>exact fun S=>h2 (h1 S)
def Pks (Γ:Rs):Yw:=fun _ h=>Sep Γ h
theorem Sep.pk {Γ Δ:Rs}{H:Hp}(S:Sep (Γ++Δ) H)(a:Addr):Sep ((a,Pks Γ)::Δ) H:=Sep.pack S fun _ G=>G
theorem Sep.unpk {Γ Δ:Rs}{H:Hp}{a:Addr}(S:Sep ((a,Pks Γ)::Δ) H):Sep (Γ++Δ) H:=Sep.unpack (a:=a) S fun _ G=>G
theorem Zci {α:Type}(y:α):∀{l:List α}{i:Nat},i < l.length->(y::l.eraseIdx i).Perm (l.set i y)
 | _::l,0,_=>.refl _
 | x::l,i+1,h=>(JJ x y _).trans ((Zci y (Nat.lt_of_succ_lt_succ h)).cons x)
def Wj (p:Addr×List (List V)):Addr×Yw:=(p.1,TL p.2)
def Wi (ks:List Str)(ops:List (List (List V))):Yw:=fun d h=>∃ as:List Addr,as.length=ops.length/\ks.length=ops.length/\Sep ((d,Xu (Yf (ks.zip (as.map V.ref))))::(as.zip ops).map Wj) h
instance {ks:List Str} {ops:List (List (List V))}:Up (Wi ks ops):=⟨fun ⟨as,h1,h2,S⟩ s=>⟨as,h1,h2,S.mono s⟩⟩
theorem ZbR {α β:Type}{xs:List α}{ys:List β}{i:Nat}{x:α}{y:β}(h1:xs[i]?=some x)(h2:ys[i]?=some y):(xs.zip ys)[i]?=some (x,y):=by
 rw [getElem?_zip_eq_some];exact ⟨h1,h2⟩
theorem VJ {ks:List Str}{vs:List V}(h:ks.length=vs.length):(ks.zip vs).map (·.1)=ks:=Nv (by omega)
theorem Sep.dtl {ks:List Str}{ops:List (List (List V))}{Δ:Rs}{H:Hp}{d:Addr}(S:Sep ((d,Wi ks ops)::Δ) H)(nd:ks.Nodup){i:Nat}{x:Str}{tss:List (List V)}(hx:ks[i]?=some x)(ho:ops[i]?=some tss) :
 ∃ (a:Addr) (kvs:List (Zn×V)) (Γ:Rs),ZD kvs (Qu x)=some (.ref a)/\Sep ((a,TL tss)::(d,Xu kvs)::(0,Pks Γ)::Δ) H/\∀ (tss':List (List V)) (H':Hp) (Δ':Rs),Sep ((a,TL tss')::(d,Xu kvs)::(0,Pks Γ)::Δ') H'->Sep ((d,Wi ks (ops.set i tss'))::Δ') H':=by
 obtain ⟨h,l,⟨as,h1,h2,G⟩,S⟩:=S
 have hi:=(Qf.mp ho).1
 obtain ⟨a,ha⟩:∃ a,as[i]?=some a:=⟨_,getElem?_eq_getElem (by omega)⟩
 have hz:=ZbR ha ho
 have hzi:i < (as.zip ops).length:=(Qf.mp hz).1
 have hze:(as.zip ops)[i]=(a,tss):=(Qf.mp hz).2
 have hlk:ks.length=(as.map V.ref).length:=by rw [length_map];omega
 refine ⟨a,Yf (ks.zip (as.map V.ref)),((as.zip ops).eraseIdx i).map Wj,?_,?_,fun tss' H' Δ' S'=>?_⟩
 ·refine Ue (by rw [VJ hlk];exact nd) (mem_of_getElem? (i:=i) (ZbR hx ?_))
  rw [getElem?_map,ha];rfl
 ·have p:((as.zip ops).map Wj).Perm ((a,TL tss)::((as.zip ops).eraseIdx i).map Wj):=by
   have:=(Zci (a,tss) hzi).map Wj
   rw [<- hze,List.set_getElem_self,hze,map_cons] at this
   exact this.symm
  have G2:Sep ((d,Xu (Yf (ks.zip (as.map V.ref))))::(a,TL tss)::((as.zip ops).eraseIdx i).map Wj) h:=G.perm (p.cons _)
  have S2:=Sep.nest (a:=d) l G2.swap S
  have S3:Sep (((as.zip ops).eraseIdx i).map Wj++((a,TL tss)::(d,Xu (Yf (ks.zip (as.map V.ref))))::Δ)) H:=by
   refine S2.perm ?_
   show ((a,TL tss)::(d,Xu (Yf (ks.zip (as.map V.ref))))::(((as.zip ops).eraseIdx i).map Wj++Δ)).Perm _
   exact ((SJ.trans (List.perm_middle.cons _)).symm)
  have S4:=S3.pk 0
  refine S4.perm ?_
  exact (JJ _ _ _).trans ((JJ _ _ _).cons _)
 ·have S1:Sep ((0,Pks (((as.zip ops).eraseIdx i).map Wj))::(d,Xu (Yf (ks.zip (as.map V.ref))))::(a,TL tss')::Δ') H':=by
   refine S'.perm ?_
   exact ((JJ _ _ _).trans ((JJ _ _ _).cons _)).trans (JJ _ _ _) |>.trans (List.Perm.refl _)
  have S2:=S1.unpk
  have hset:(as.zip (ops.set i tss'))=(as.zip ops).set i (a,tss'):=by
   apply Sd
   intro j
   rw [getElem?_set]
   by_cases hj:i=j
   ·subst hj
    rw [if_pos rfl,if_pos hzi]
    exact ZbR ha (by rw [getElem?_set,if_pos rfl,if_pos hi])
   ·rw [if_neg hj]
    cases z:(as.zip ops)[j]? with
    | none =>
     rw [TQ] at z ⊢
     rw [JV] at z ⊢
     rw [length_set];exact z
    | some q =>
     obtain ⟨q1,q2⟩:=q
     obtain ⟨z1,z2⟩:=getElem?_zip_eq_some.mp z
     exact ZbR z1 (by rw [getElem?_set,if_neg hj];exact z2)
  refine Sep.pack (Γ:=(d,Xu (Yf (ks.zip (as.map V.ref))))::(as.zip (ops.set i tss')).map Wj) (S2.perm ?_) fun h G=>⟨as,by rw [length_set];exact h1,by rw [length_set];exact h2,G⟩
  have p:((a,TL tss')::((as.zip ops).eraseIdx i).map Wj).Perm ((as.zip (ops.set i tss')).map Wj):=by
   have:=(Zci (a,tss') hzi).map Wj
   rw [map_cons] at this
   rw [hset]
   exact this
  show (((as.zip ops).eraseIdx i).map Wj++((d,Xu (Yf (ks.zip (as.map V.ref))))::(a,TL tss')::Δ')).Perm ((d,Xu (Yf (ks.zip (as.map V.ref))))::((as.zip (ops.set i tss')).map Wj++Δ'))
  refine SJ.trans (List.Perm.cons _ ?_)
  refine SJ.trans ?_
  exact (p.append_right Δ')
theorem Sep.dtlNew {ks:List Str}{ops:List (List (List V))}{Δ:Rs}{H H2:Hp}{d:Addr}{x:Str}(S:Sep ((d,Wi ks ops)::Δ) H)(hx:x ∉ ks){a:Addr}(hp:H a=none)(e:upd H a (.lst [])=H2) :
 ∃ kvs:List (Zn×V),kvs.length=ks.length/\H2 d=some (.dK kvs)/\∀ H3,upd H2 d (.dK (Yp kvs (Qu x) (.ref a)))=H3->Sep ((d,Wi (ks++[x]) (ops++[[]]))::Δ) H3:=by
 obtain ⟨h,l,⟨as,h1,h2,G⟩,S⟩:=S
 have hlk:ks.length=(as.map V.ref).length:=by rw [length_map];omega
 have S1:=Sep.nest (a:=d) l G S
 have S2:=(S1.newE hp e).say a (TL []) fun h z=>⟨[],z,rfl,fun i _ _ q _=>by cases q⟩
 have S3:Sep ((d,Xu (Yf (ks.zip (as.map V.ref))))::(a,TL [])::((as.zip ops).map Wj++Δ)) H2:=S2.swap
 refine ⟨Yf (ks.zip (as.map V.ref)),by unfold Yf;rw [length_map,JV];omega,S3.get d,fun H3 e3=>?_⟩
 have S4:=S3.putE e3
 rw [Zco (by rw [VJ hlk];exact hx)] at S4
 refine Sep.pack (Γ:=(d,Xu (Yf ((ks++[x]).zip ((as++[a]).map V.ref))))::((as++[a]).zip (ops++[[]])).map Wj) (S4.perm ?_) fun h G=>⟨as++[a],by rw [length_append,length_append,h1];rfl,by rw [length_append,length_append,h2];rfl,G⟩
 rw [map_append,NY hlk,NY h1,map_append]
 refine List.Perm.cons _ ?_
 show ((a,TL [])::((as.zip ops).map Wj++Δ)).Perm (((as.zip ops).map Wj++[(a,TL [])])++Δ)
 rw [append_assoc]
 exact List.perm_middle.symm
end L2
namespace L2
open PySem PySem.W PySem.Spec PyProof.Rows
section
variable {P:Qk}{w:Qv}{K:Qa}{mg:Str->Option Qb}{base:Heap}
end
section
variable {X:Cx}{o:Expr}{to:TE}{y z:Str}{apos cpos p1 p2:Pos}
end
end L2
namespace L2
open PySem
def ZfT (pre post:Str)(z:Int)(x:Str):Prop:=∃ c1 c2,x=pre++(⟨#[c1]⟩:Str)++(⟨#[c2]⟩:Str)++post/\YH a26.cps.toList (z / 26)=some c1/\YH a26.cps.toList (z % 26)=some c2
theorem ZkV:∀ i j:_root_.Fin 26,a26.cps.toList[i.val]?=a26.cps.toList[j.val]?->i=j:=by decide +kernel
theorem Zit {xs:List Nat}{r:Int}{c:Nat}(h0:0<=r)(h:YH xs r=some c):xs[r.toNat]?=some c:=by
 unfold YH XI at h
 rw [if_pos h0] at h
 split at h
 ·exact h
 ·cases h
theorem Zhj {r r':Int}{c:Nat}(h0:0<=r)(h1:r < 26)(h2:0<=r')(h3:r' < 26)(e:YH a26.cps.toList r=some c)(e':YH a26.cps.toList r'=some c):r=r':=by
 have:=ZkV ⟨r.toNat,by omega⟩ ⟨r'.toNat,by omega⟩ ((Zit h0 e).trans (Zit h2 e').symm)
 have:=congrArg Fin.val this
 simp only at this
 omega
theorem ZkM (x y:Str):(x++y).cps.toList=x.cps.toList++y.cps.toList:=by
 show (x.cps++y.cps).toList=_
 simp
theorem ZmA {pre post:Str}{z z':Int}{x:Str}(h0:0<=z)(h1:z < 676)(h2:0<=z')(h3:z' < 676)(h:ZfT pre post z x)(h':ZfT pre post z' x):z=z':=by
 obtain ⟨c1,c2,rfl,e1,e2⟩:=h
 obtain ⟨d1,d2,e,f1,f2⟩:=h'
 have e:=congrArg (fun s:Str=>s.cps.toList) e
 simp only [ZkM,append_assoc] at e
 have e:=List.append_cancel_left e
 simp at e
 obtain ⟨rfl,rfl⟩:=e
 have g1:=Zhj (by omega) (by omega) (by omega) (by omega) e1 f1
 have g2:=Zhj (by omega) (by omega) (by omega) (by omega) e2 f2
 omega
theorem ZlW {r5 stp:Int}{i j:Nat}(hs:stp=1\/stp=27\/stp=5\/stp=251)(hij:i < j)(hj:j<=100)(e:(r5+stp * (0+(i:Int))) % 676=(r5+stp * (0+(j:Int))) % 676):False:=by
 rcases hs with rfl | rfl | rfl | rfl<;>omega
theorem Zhl {pre post:Str}{r5 stp:Int}{xs:List Str}(hs:stp=1\/stp=27\/stp=5\/stp=251)(hl:xs.length<=100)(h:∀(j:Nat)(x:Str),xs[j]?=some x->ZfT pre post ((r5+stp * (0+(j:Int))) % 676) x):xs.Nodup:=by
 refine JN.mpr fun i j hi hj hij e=>?_
 have a:=h i _ (getElem?_eq_getElem hi)
 have b:=h j _ (getElem?_eq_getElem hj)
 rw [e] at a
 exact ZlW hs hij (by omega) (ZmA (GF _ (by decide)) (Gy _ (by decide)) (GF _ (by decide)) (Gy _ (by decide)) a b)
def Zei:Sp:=fun vs H Q _=>∃(p:Addr)(n:Nat)(many:Int)(Δ:Rs),vs=[.ref p,.int many]/\Sep ((p,Bx n)::Δ) H/\n<=900000/\0<=many/\many<=100 /\
 ∀ (l:Addr) (H':Hp) (xs:List Str),Sep ((l,Yj (xs.map V.str))::(p,Bx (n+20))::Δ) H'->xs.length=many.toNat->(∀ x∈xs,Um x)->xs.Nodup->Q (.ref l) H'
end L2
namespace L2
open PySem PySem.Spec PyProof.Rows
section
variable {X:Cx}
end
end L2
namespace L2
open PySem PySem.W PySem.Spec PyProof.Rows
section
variable {X:Cx}
end
end L2
namespace L2
open PySem PySem.Spec PyProof.Rows
section
variable {prog:Qk}{w:Qv}{A:QF}{E:Qb->Qe->Prop}{s:Qe}
end
section
variable {X:Cx}
end
section
variable {P:Qk}{w:Qv}{K:Qa}{mg:Str->Option Qb}{base:Heap}{k:Nat}{f:Addr}{fd:Qm}{ps:List Str}{sp sp':Sp}
theorem FnOk.low (F:FnOk P w K mg base (Uz P w base) k f fd ps sp)(h:∀ vs H Q E,sp' vs H Q E->sp vs H Q (fun _ _ _=>False)):FnOk P w K mg base ZC k f fd ps sp' :=
 ⟨fun vs H Q E z=>F.len vs H Q _ (h vs H Q E z),fun A outer s H args us vs Q E hr e b v q=>GA (F.run A outer s H args us vs Q _ hr e b v (h vs H Q E q)) fun r s' z=>by
  cases r with
  | error e=>obtain ⟨_,_,_,_,_,_,_,_,_,_,_,_,z⟩:=z;exact z.elim
  | ok fl=>cases fl<;>exact z⟩
end
end L2
namespace K36
open PySem L2
theorem Zmi {fs:List Fnd}{l:Addr}{h:Hp}:UK fs l h->TL (fs.map Fnd.vs) l h
 | ⟨as,e,hl,hs⟩=>⟨as,e,by rw [length_map];exact hl,fun i a ts q1 q2=>by
  rw [getElem?_map] at q2
  obtain ⟨f,ef,rfl⟩:=QR.mp q2
  exact hs i a f q1 ef⟩
theorem Znd {fs:List Fnd}{l:Addr}{h:Hp}:TL (fs.map Fnd.vs) l h->UK fs l h
 | ⟨as,e,hl,hs⟩=>⟨as,e,by rw [hl,length_map],fun i a f q1 q2=>hs i a f.vs q1 (by rw [getElem?_map,q2];rfl)⟩
theorem WF {lf lu:Addr}{m:Str}(h:[("finds":Str),"unused"].all (fun k=>!(m == k))=true):(tFl lf lu).lookup m=none:=by
 simp only [Os,Nf,Ot,QL,JA] at h
 obtain ⟨h1,h2⟩:=h
 simp [tFl,GB,h1,h2]
def Wq (fs:List Fnd)(us:List Bool)(n:Nat)(i:Nat):Bool:=us.getD i false&&(match fs[i]? with | some f=>decide (f.wd=n) | none=>false)
def Wc (fs:List Fnd)(us:List Bool)(n:Nat):List Nat:=(Gd fs.length).filter (Wq fs us n)
def Wp (fs:List Fnd)(x:Str)(i:Nat):Bool:=match fs[i]? with | some f=>decide (f.nm=x) | none=>false
def Zbt (fs:List Fnd)(us:List Bool)(f:Fnd):Option Nat:=((Wc fs us f.wd).filter (Wp fs f.nm)).getLast?
def oV:Option Nat->V
 | some j=>.int (j:Int)
 | none=>.non
section
variable {P:Qk}{w:Qv}{K:Qa}{mg:Str->Option Qb}{base:Heap}{CH CR CS CT Pl:Addr}
def spMk (CT:Addr):Sp:=fun vs H Q _=>∃(t:Addr)(fs:List Fnd)(us:List Bool)(k:Nat)(x:Str)(v:V)(Δ:Rs),vs=[.ref t,.int (k:Int),.str x,v]/\Sep ((t,WL CT fs us)::Δ) H/\fs.length<=1000/\us.length<=1000/\∀ H',Sep ((t,WL CT (fs++[⟨k,x,v⟩]) (us++[true]))::Δ) H'->Q (.int (fs.length:Int)) H'
abbrev nTMk:List Str:=["self","world","name","old"]
abbrev ZgL:List Str:=["self","world","name","old"]
theorem ZoZ:Zm nTMk ZgL (Zj c_Tokens_make):=⟨rfl,rfl,rfl,by decide +kernel,rfl,by decide +kernel,by decide +kernel⟩
theorem ZkJ {f:Addr}{fd:Qm}(F:Fun K "make" "Tokens.make" c_Tokens_make f fd)(T:ZY mg)(TT:WO K CT):FnOk P w K mg base ZC 1 f fd ZgL (spMk CT):=by
 refine F.ok ZoZ (fun vs H Q E h=>?_) (fun cdv A outer s H vs Q E hr h=>?_)
 ·obtain ⟨t,fs,us,k,x,v,Δ,rfl,_⟩:=h;rfl
 obtain ⟨t,fs,us,k,x,v,Δ,rfl,S0,hf,hu,q⟩:=h
 obtain ⟨lf,lu,S⟩:=S0.tksO
 obtain ⟨dx,ob⟩:=S.get t
 have S1:=S.say lf (TL (fs.map Fnd.vs)) fun h z=>Zmi z
 obtain ⟨as,el,hs⟩:=S1.get lf
 refine' ⟨?t,?h,?r⟩
 case h =>
  conv=>arg 2;whnf
  with_reducible refine' (Ze ?h1 (Ze ?h2 (Zh ?h3)))
  case h1=>exact ZU (YS QB QJ QK Ys (Zu (pv 0) rfl) (Zb (Yi (Zb (pv 1) (Zb (pv 2) (Zb (pv 3) Za)))) Za))
  case h2=>exact ZU (YS QB QJ QK Ys (Zu (pv 0) rfl) (Zb YV Za))
  case h3=>exact Zq (Zx Xt (Zr ZO rfl T.len QM (Zb (Zu (pv 0) rfl) Za)) Zi)
 try dsimp only [ZQ,Cx.nox]
 refine zs3 ?_
 intro zD zS zN2 zN1
 refine ⟨_,rfl,t,CT,dx,_,_,rfl,ob,TT.cl,TT.nf,rfl,.inl ⟨rfl,_,SqL.of el⟩,_,rfl,_,rfl,_,rfl,(by show 3<=Qi;decide),fun p hp=>?_⟩
 generalize hE:upd H p _=H2
 have S2:=S1.newE hp hE
 have ep:H2 p=some (.tup [.int (k:Int),.str x,v]):=S2.get p
 clear hE
 obtain ⟨as2,el2,hs2⟩:=S2.get lf
 refine ⟨lf,_,_,rfl,rfl,el2,YG (show _<=1000 by rw [length_map,hs2.1,length_map];exact hf),?_⟩
 generalize hE:upd H2 lf _=H3
 have S3:=S2.tlPut hE (as':=as2++[p]) (by rw [map_append];rfl) (hs2.app ep)
 clear hE
 obtain ⟨dx3,ob3⟩:=S3.get t
 refine ⟨_,rfl,t,CT,dx3,_,_,rfl,ob3,TT.cl,TT.nu,rfl,.inl ⟨rfl,_,SqL.of (S3.get lu)⟩,lu,_,_,rfl,rfl,S3.get lu,YG (show _<=1000 by rw [length_map];exact hu),?_⟩
 generalize hE:upd H3 lu _=H4
 have S4:=S3.putE hE
 clear hE
 obtain ⟨dx4,ob4⟩:=S4.get t
 obtain ⟨as4,el4,hs4⟩:=S4.get lf
 refine ⟨_,rfl,t,CT,dx4,_,_,rfl,ob4,TT.cl,TT.nf,rfl,lf,_,rfl,.inl (SqL.of el4),_,_,rfl,rfl,?_⟩
 have hl4:=hs4.1
 rw [length_append,length_map,length_singleton] at hl4
 rw [length_map,hl4]
 show Q (.int (((fs.length+1:Nat):Int) - 1)) H4
 rw [show ((fs.length+1:Nat):Int) - 1=(fs.length:Int) by omega]
 have S5:=S4.say lf (UK (fs++[⟨k,x,v⟩])) fun h z=>Znd (by rw [map_append];exact z)
 refine q _ (Sep.tksC (lf:=lf) (lu:=lu) ?_)
 rw [map_append]
 exact (((S5.drop p).pull lu).pull lf).pull t
def Zkj (CT:Addr):Sp:=fun vs H Q _=>∃(t:Addr)(fs:List Fnd)(us:List Bool)(k:Nat),vs=[.ref t,.int (k:Int)]/\WL CT fs us t H/\k < fs.length/\Q .non H
abbrev nTCt:List Str:=["self","token"]
abbrev Zgc:List Str:=["self","token"]
theorem ZoG:Zm nTCt Zgc (Zj c_Tokens_check_token):=⟨rfl,rfl,rfl,by decide +kernel,rfl,by decide +kernel,by decide +kernel⟩
theorem Zmx {f:Addr}{fd:Qm}(F:Fun K "check_token" "Tokens.check_token" c_Tokens_check_token f fd)(T:ZY mg)(TT:WO K CT):FnOk P w K mg base ZC 1 f fd Zgc (Zkj CT):=by
 refine F.ok ZoG (fun vs H Q E h=>?_) (fun cdv A outer s H vs Q E hr h=>?_)
 ·obtain ⟨t,fs,us,k,rfl,_⟩:=h;rfl
 obtain ⟨t,fs,us,k,rfl,⟨lf,lu,S⟩,hk,q⟩:=h
 obtain ⟨dx,ob⟩:=S.get t
 obtain ⟨as,el,hal,hs⟩:=S.get lf
 refine' ⟨?t,?h,?r⟩
 case h =>
  conv=>arg 2;whnf
  with_reducible refine' (Zh (ZZ ?h1 (Zh Vl) ZM))
  case h1=>exact Wn (ZaA ZgU Zbk Zi (pv 1) (Zr ZO rfl T.len QM (Zb (Zu (pv 0) rfl) Za)))
 try dsimp only [ZQ,Cx.nox]
 refine ⟨_,rfl,_,_,rfl,rfl,_,rfl,?_⟩
 rw [decide_eq_true (show (0:Int)<=(k:Int) by omega)]
 refine Yk ⟨_,rfl,t,CT,dx,_,_,rfl,ob,TT.cl,TT.nf,rfl,lf,_,rfl,.inl (SqL.of el),_,_,rfl,rfl,_,rfl,?_⟩
 rw [decide_eq_true (show (k:Int) < (((as.map V.ref).length:Nat):Int) by rw [length_map];omega)]
 exact ZP q
def Zbh (CT:Addr):Sp:=fun vs H Q _=>∃(t:Addr)(fs:List Fnd)(us:List Bool)(k:Nat)(f:Fnd)(b:Bool),vs=[.ref t,.int (k:Int)]/\WL CT fs us t H/\fs[k]?=some f/\us[k]?=some b/\∀ a H',Same H H'->H a=none->H' a=some (.tup [.int (f.wd:Int),.str f.nm,f.ol,.bl b])->Q (.ref a) H'
abbrev nTDs:List Str:=["self","token","world","name","old"]
abbrev Zal:List Str:=["self","token"]
theorem scTDs:Zm nTDs Zal (Zj c_Tokens_described):=⟨rfl,rfl,rfl,by decide +kernel,rfl,by decide +kernel,by decide +kernel⟩
theorem Zmo {f:Addr}{fd:Qm}(F:Fun K "described" "Tokens.described" c_Tokens_described f fd)(T:ZY mg)(TT:WO K CT)(DT_check_token:DefM P w K mg base 1 CT "check_token" Zgc (Zkj CT)):FnOk P w K mg base ZC 2 f fd Zal (Zbh CT):=by
 refine F.ok scTDs (fun vs H Q E h=>?_) (fun cdv A outer s H vs Q E hr h=>?_)
 ·obtain ⟨t,fs,us,k,f,b,rfl,_⟩:=h;rfl
 obtain ⟨t,fs,us,k,f,b,rfl,R,hk,hb,q⟩:=h
 obtain ⟨lf,lu,S⟩:=id R
 obtain ⟨dx,ob⟩:=S.get t
 obtain ⟨as,el,hal,hs⟩:=S.get lf
 have hkf:=(Qf.mp hk).1
 obtain ⟨a,ha⟩:∃ a,as[k]?=some a:=⟨_,getElem?_eq_getElem (by omega)⟩
 have ea:=hs k a f ha hk
 refine' ⟨?t,?h,?r⟩
 case h =>
  conv=>arg 2;whnf
  with_reducible refine' (Ze ?h1 (Ze ?h2 (Zh ?h3)))
  case h1=>exact ZU (ZH DT_check_token TT.cl hr (pv 0) (Zb (pv 1) Za))
  case h2=>exact Yu (Zz ZB (Zu (pv 0) rfl) (pv 1) (fun _ _=>rfl)) (Xz rfl (ZF (ZA (i:=2) scTDs.nd rfl (Qz rfl)) (ZF (ZA (i:=3) scTDs.nd rfl (Qz rfl)) (ZF (ZA (i:=4) scTDs.nd rfl (Qz rfl)) Xb))))
  case h3=>exact Zq (Yi (Zb (pv 2) (Zb (pv 3) (Zb (pv 4) (Zb (Zz ZB (Zu (pv 0) rfl) (pv 1) (fun _ _=>rfl)) Za)))))
 try dsimp only [ZQ,Cx.nox]
 refine zs3 ?_
 intro zD zS zN2 zN1
 refine ⟨_,rfl,t,dx,_,rfl,ob,WF (by decide +kernel),_,rfl,t,fs,us,k,rfl,R,hkf,?_⟩
 refine ⟨_,rfl,t,CT,dx,_,_,rfl,ob,TT.cl,TT.nf,rfl,_,rfl,lf,_,_,_,rfl,rfl,SqL.of el,ZE (show (as.map V.ref)[k]?=some (.ref a) by rw [getElem?_map,ha];rfl),?_⟩
 refine ⟨a,_,rfl,SqT.of ea,rfl,_,_,rfl,_,_,rfl,_,_,rfl,rfl,?_⟩
 exact ⟨_,rfl,_,rfl,_,rfl,_,rfl,t,CT,dx,_,_,rfl,ob,TT.cl,TT.nu,rfl,_,rfl,lu,_,_,_,rfl,rfl,SqL.of (S.get lu),ZE (show (us.map V.bl)[k]?=some (.bl b) by rw [getElem?_map,hb];rfl),(by show 4<=Qi;decide),fun p hp=>q p _ (Zk hp _) hp Zf⟩
def Zkf (CT:Addr):Sp:=fun vs H Q _=>∃(t:Addr)(fs:List Fnd)(us:List Bool)(k:Nat)(Δ:Rs),vs=[.ref t,.int (k:Int)]/\Sep ((t,WL CT fs us)::Δ) H/\k < us.length/\∀ H',Sep ((t,WL CT fs (us.set k false))::Δ) H'->Q .non H'
abbrev nTUs:List Str:=["self","token"]
abbrev ZfY:List Str:=["self","token"]
theorem ZpJ:Zm nTUs ZfY (Zj c_Tokens_use):=⟨rfl,rfl,rfl,by decide +kernel,rfl,by decide +kernel,by decide +kernel⟩
theorem Znw {f:Addr}{fd:Qm}(F:Fun K "use" "Tokens.use" c_Tokens_use f fd)(T:ZY mg)(TT:WO K CT):FnOk P w K mg base ZC 1 f fd ZfY (Zkf CT):=by
 refine F.ok ZpJ (fun vs H Q E h=>?_) (fun cdv A outer s H vs Q E hr h=>?_)
 ·obtain ⟨t,fs,us,k,Δ,rfl,_⟩:=h;rfl
 obtain ⟨t,fs,us,k,Δ,rfl,S0,hk,q⟩:=h
 obtain ⟨lf,lu,S⟩:=S0.tksO
 obtain ⟨dx,ob⟩:=S.get t
 refine' ⟨?t,?h,?r⟩
 case h =>
  conv=>arg 2;whnf
  with_reducible refine' (Zh ?h1)
  case h1=>exact Yu YV (Wm (Zu (pv 0) rfl) (pv 1) Xi)
 try dsimp only [ZQ,Cx.nox]
 refine ⟨_,rfl,t,CT,dx,_,_,rfl,ob,TT.cl,TT.nu,rfl,_,rfl,lu,_,_,k,rfl,rfl,S.get lu,(by unfold XI;rw [length_map,if_pos (by omega)];simp [hk]),?_⟩
 generalize hE:upd H lu _=H2
 have S2:=S.putE hE
 clear hE
 refine q _ (Sep.tksC (lf:=lf) (lu:=lu) ?_)
 rw [map_set]
 exact ((S2.pull lu).pull lf).pull t
def spOi (CT:Addr):Sp:=fun vs H Q _=>∃(t:Addr)(fs:List Fnd)(us:List Bool)(n:Nat),vs=[.ref t,.int (n:Int)]/\WL CT fs us t H/\fs.length=us.length/\fs.length<=1000/\∀ l H',Same H H'->H l=none->H' l=some (.lst ((Wc fs us n).map nI))->Q (.ref l) H'
abbrev Zgn:List Str:=["self","world"]
abbrev Zha:List Str:=["self","world"]
theorem ZpB:Zm Zgn Zha (Zj c_Tokens_open_in):=⟨rfl,rfl,rfl,by decide +kernel,rfl,by decide +kernel,by decide +kernel⟩
theorem ZoH {f:Addr}{fd:Qm}(F:Fun K "open_in" "Tokens.open_in" c_Tokens_open_in f fd)(T:ZY mg)(TT:WO K CT):FnOk P w K mg base ZC 1 f fd Zha (spOi CT):=by
 refine F.ok ZpB (fun vs H Q E h=>?_) (fun cdv A outer s H vs Q E hr h=>?_)
 ·obtain ⟨t,fs,us,n,rfl,_⟩:=h;rfl
 obtain ⟨t,fs,us,n,rfl,R,hfu,hl,q⟩:=h
 obtain ⟨lf,lu,S⟩:=id R
 obtain ⟨dx,ob⟩:=S.get t
 obtain ⟨as,el,hal,hs⟩:=S.get lf
 refine' ⟨?t,?h,?r⟩
 case h =>
  conv=>arg 2;whnf
  with_reducible refine' (Zh ?h1)
  case h1=>exact Zq (ZhE (xa:="token") (xb:="find") (CompOkT.of Zgn c_Tokens_open_in rfl rfl (by decide +kernel)) rfl (ZjA rfl T.enumerate (Zu (pv 0) rfl)) (fun _ _ _ _ _=>ZkZ (K:=K) rfl rfl (ZA (i:=2) (show (hid2 Zgn "token" "find"++(["token","find"]:List Str)).Nodup by decide +kernel) rfl (Qz rfl) (SX rfl)) (ZA (i:=3) (show (hid2 Zgn "token" "find"++(["token","find"]:List Str)).Nodup by decide +kernel) rfl (Qz rfl) (SX rfl))) (fun _ _ _ _ _=>PW.pt (VW (XS (Zz (ZdG (K:=K) rfl) (Zfq (K:=K) rfl (pv 0) rfl) (pv 2) (fun _ _=>rfl))) (UY (ZL Yx (Zz (ZbX (K:=K) rfl) (pv 3) Zi (fun _ _=>rfl)) (pv 1) (ZJ _))))) (fun _ _ _ _ _=>pv 2))
 try dsimp only [ZQ,Cx.nox]
 refine ⟨_,rfl,t,CT,dx,_,_,rfl,ob,TT.cl,TT.nf,rfl,lf,_,rfl,el,fun D hD=>?_⟩
 refine Zeo (K:=K) (xs:=as.map V.ref) (Xl (show _<=1000 by rw [length_map];omega)) (fun i ys H'=>Same H H'/\H' D=some (.lst ys)/\ys=((Gd i).filter (Wq fs us n)).map nI) ⟨Zk hD _,Zf,rfl⟩ ?_ ?_ ?_
 ·rintro i ys H' ⟨s1,_,rfl⟩
  exact ⟨by rw [length_map];exact Qn (length_filter_le _ _) (by rw [Sc];exact Qh _),SqL.of (s1 _ _ el)⟩
 ·rintro i v p ys H' wa wb hv hp ⟨s1,eD,rfl⟩
  rw [getElem?_map] at hv
  obtain ⟨a,ha,rfl⟩:=QR.mp hv
  have hi:=(Qf.mp ha).1
  obtain ⟨f,hf⟩:∃ f,fs[i]?=some f:=⟨_,getElem?_eq_getElem (by omega)⟩
  obtain ⟨b,hb⟩:∃ b,us[i]?=some b:=⟨_,getElem?_eq_getElem (by omega)⟩
  have ea:=hs i a f ha hf
  have s2:=s1.trans (Zk hp (.tup [.int (i:Int),.ref a]))
  refine ⟨p,_,rfl,SqT.of Zf,rfl,_,_,rfl,_,_,rfl,rfl,⟨_,_,rfl⟩,?_⟩
  have eD2:=(Zk hp (.tup [.int (i:Int),.ref a])) _ _ eD
  generalize upd H' p (.tup [.int (i:Int),.ref a])=H2 at s2 eD2 ⊢
  obtain ⟨dx2,ob2⟩:=(S.mono s2).get t
  have hop:Wq fs us n i=(b&&decide (f.wd=n)):=by unfold Wq;rw [getD_eq_getElem?_getD,hb,hf];rfl
  refine ⟨_,rfl,t,CT,dx2,_,_,rfl,ob2,TT.cl,TT.nu,rfl,_,rfl,lu,_,_,_,rfl,rfl,SqL.of ((S.mono s2).get lu),ZE (show (us.map V.bl)[i]?=some (.bl b) by rw [getElem?_map,hb];rfl),?_⟩
  have yes:Wq fs us n i=true->Same H (upd H2 D (.lst (((Gd i).filter (Wq fs us n)).map nI++[V.int (i:Int)])))/\upd H2 D (.lst (((Gd i).filter (Wq fs us n)).map nI++[V.int (i:Int)])) D=some (.lst (((Gd i).filter (Wq fs us n)).map nI++[V.int (i:Int)]))/\((Gd i).filter (Wq fs us n)).map nI++[V.int (i:Int)]=((Gd (i+1)).filter (Wq fs us n)).map nI:=fun c=>by
   refine ⟨(fun b o e=>by rw [Zg (fun z=>by rw [z,hD] at e;cases e)];exact s2 _ _ e),Zf,?_⟩
   rw [Tb,filter_append,Jj c,map_append];rfl
  have no:Wq fs us n i=false->((Gd i).filter (Wq fs us n)).map nI=((Gd (i+1)).filter (Wq fs us n)).map nI:=fun c=>by
   rw [Tb,filter_append,Pb (by rw [c];decide),Rk,append_nil]
  cases b with
  | false=>exact ⟨_,rfl,ZP (ZP ⟨s2,eD2,no (by rw [hop];rfl)⟩)⟩
  | true =>
   refine ⟨_,rfl,Yk ⟨_,rfl,a,_,_,_,rfl,rfl,SqT.of (s2 _ _ ea),ZE (j:=0) rfl,_,rfl,rfl,_,rfl,?_⟩⟩
   by_cases c:f.wd=n
   ·rw [decide_eq_true (show V.int (f.wd:Int)=V.int (n:Int) by rw [c])]
    exact Yk ⟨_,rfl,eD2,yes (by rw [hop,decide_eq_true c];rfl)⟩
   ·rw [decide_eq_false (show ¬ V.int (f.wd:Int)=V.int (n:Int) from fun z=>c (by injection z with z;omega))]
    exact ZP ⟨s2,eD2,no (by rw [hop,decide_eq_false c];rfl)⟩
 ·rintro ys H' ⟨s1,eD,rfl⟩
  rw [length_map,hal] at eD
  exact q D H' s1 hD eD
end
section
variable {P:Qk}{w:Qv}{K:Qa}{mg:Str->Option Qb}{base:Heap}{CH CR CS CT Pl:Addr}
def spLo (CT:Addr):Sp:=fun vs H Q _=>∃(t:Addr)(fs:List Fnd)(us:List Bool)(k:Nat)(f:Fnd)(b:Bool),vs=[.ref t,.int (k:Int)]/\WL CT fs us t H/\fs.length=us.length/\fs.length<=1000/\fs[k]?=some f/\us[k]?=some b/\∀ H',Same H H'->Q (oV (Zbt fs us f)) H'
theorem Zcv {fs:List Fnd}{us:List Bool}{n:Nat}:(Wc fs us n).length<=fs.length:=Qn (length_filter_le _ _) (by rw [Sc];exact Qh _)
theorem ZlF {xs:List Nat}{k:Nat}(h:xs.getLast?=some k):YH (xs.map nI) (-1)=some (nI k):=ZcQ h
abbrev nTLo:List Str:=["self","token","world","name","old","unused","found"]
abbrev ZfP:List Str:=["self","token"]
theorem scTLo:Zm nTLo ZfP (Zj c_Tokens_last_open):=⟨rfl,rfl,rfl,by decide +kernel,rfl,by decide +kernel,by decide +kernel⟩
theorem Zpb {f:Addr}{fd:Qm}(F:Fun K "last_open" "Tokens.last_open" c_Tokens_last_open f fd)(T:ZY mg)(TT:WO K CT)(DT_described:DefM P w K mg base 2 CT "described" Zal (Zbh CT))(DT_open_in:DefM P w K mg base 2 CT "open_in" Zha (spOi CT)):FnOk P w K mg base ZC 3 f fd ZfP (spLo CT):=by
 refine F.ok scTLo (fun vs H Q E h=>?_) (fun cdv A outer s H vs Q E hr h=>?_)
 ·obtain ⟨t,fs,us,k,f,b,rfl,_⟩:=h;rfl
 obtain ⟨t,fs,us,k,f,b,rfl,R,hfu,hl,hk,hb,q⟩:=h
 obtain ⟨lf,lu,S⟩:=id R
 obtain ⟨dx,ob⟩:=S.get t
 refine' ⟨?t,?h,?r⟩
 case h =>
  conv=>arg 2;whnf
  with_reducible refine' (Ze ?h1 (Ze ?h2 (Zh ?h3)))
  case h1=>exact Yu (ZH DT_described TT.cl hr (pv 0) (Zb (pv 1) Za)) (Xz rfl (ZF (ZA (i:=2) scTLo.nd rfl (Qz rfl)) (ZF (ZA (i:=3) scTLo.nd rfl (SX rfl)) (ZF (ZA (i:=4) scTLo.nd rfl (Qz rfl)) (ZF (ZA (i:=5) scTLo.nd rfl (Qz rfl)) Xb)))))
  case h2=>exact UL (i:=6) (CompOk.of nTLo c_Tokens_last_open rfl rfl (by decide +kernel)) rfl scTLo.nd rfl (Qz rfl) (Zao (ZH DT_open_in TT.cl hr (pv 0) (Zb (pv 2) Za))) (fun _ _ _ _ _=>ZL Yx (Zz (ZbX (K:=K) rfl) (Zz (ZdG (K:=K) rfl) (Zfq (K:=K) rfl (pv 0) rfl) (pv 7) (fun _ _=>rfl)) Zi (fun _ _=>rfl)) (pv 3) (ZJ _)) (fun _ _ _ _ _=>pv 7) rfl
  case h3=>exact Zq (Yo (Ud (pv 6) (fun _=>rfl)) (Zz ZB (pv 6) (Zdk Zba Zi) (fun _ _=>rfl)) XX)
 try dsimp only [ZQ,Cx.nox]
 refine zs3 ?_
 intro zD zS zN2 zN1
 refine ⟨_,rfl,t,dx,_,rfl,ob,WF (by decide +kernel),_,rfl,t,fs,us,k,f,b,rfl,R,hk,hb,fun a H1 s1 ha ea=>?_⟩
 refine ⟨a,_,rfl,SqT.of ea,rfl,_,_,rfl,_,_,rfl,_,_,rfl,_,_,rfl,rfl,?_⟩
 obtain ⟨dx1,ob1⟩:=(S.mono s1).get t
 refine ⟨_,rfl,t,dx1,_,rfl,ob1,WF (by decide +kernel),_,rfl,t,fs,us,f.wd,rfl,⟨lf,lu,S.mono s1⟩,hfu,hl,fun l H2 s2 hl0 el=>⟨l,rfl,⟨_,SqL.of el⟩,fun D hD=>?_⟩⟩
 have s12:=s1.trans s2
 refine Zbu (K:=K) (xs:=(Wc fs us f.wd).map nI) (Xl (show _<=1000 by rw [length_map];exact Qn Zcv hl)) (fun i ys H'=>Same H2 H'/\H' D=some (.lst ys)/\ys=(((Wc fs us f.wd).take i).filter (Wp fs f.nm)).map nI) ⟨Zk hD _,Zf,rfl⟩ ?_ ?_ ?_
 ·rintro i ys H' ⟨s3,_,rfl⟩
  exact ⟨by rw [length_map];exact Qn (length_filter_le _ _) (by rw [length_take];omega),SqL.of (s3 _ _ el)⟩
 ·rintro i v ys H' hv ⟨s3,eD,rfl⟩
  rw [getElem?_map] at hv
  obtain ⟨j,hj,rfl⟩:=QR.mp hv
  have hjl:j < fs.length:=mem_range.mp (mem_filter.mp (mem_of_getElem? hj)).1
  obtain ⟨g,hg⟩:∃ g,fs[j]?=some g:=⟨_,getElem?_eq_getElem hjl⟩
  have S3:=S.mono (s12.trans s3)
  obtain ⟨dx3,ob3⟩:=S3.get t
  obtain ⟨as,ef,hal,hs⟩:=S3.get lf
  obtain ⟨a',ha'⟩:∃ a,as[j]?=some a:=⟨_,getElem?_eq_getElem (by omega)⟩
  have hnb:Wp fs f.nm j=decide (g.nm=f.nm):=by unfold Wp;rw [hg]
  refine ⟨_,rfl,t,CT,dx3,_,_,rfl,ob3,TT.cl,TT.nf,rfl,_,rfl,lf,_,_,_,rfl,rfl,SqL.of ef,ZE (show (as.map V.ref)[j]?=some (.ref a') by rw [getElem?_map,ha'];rfl),a',_,_,_,rfl,rfl,SqT.of (hs j a' g ha' hg),ZE (j:=1) rfl,_,rfl,rfl,_,rfl,?_⟩
  by_cases c:g.nm=f.nm
  ·rw [decide_eq_true (show V.str g.nm=V.str f.nm by rw [c])]
   refine Yk ⟨_,rfl,eD,(fun b o e=>by rw [Zg (fun z=>by rw [z,hD] at e;cases e)];exact s3 _ _ e),Zf,?_⟩
   rw [take_add_one,hj,filter_append,map_append]
   show _=_++(List.filter _ [j]).map nI
   rw [Jj (by rw [hnb];exact decide_eq_true c)];rfl
  ·rw [decide_eq_false (show ¬ V.str g.nm=V.str f.nm from fun z=>c (by injection z))]
   refine ZP ⟨s3,eD,?_⟩
   rw [take_add_one,hj,filter_append,map_append]
   show _=_++(List.filter _ [j]).map nI
   rw [Pb (by rw [hnb];simpa using c),Rk,SW,append_nil]
 rintro ys H3 ⟨s3,eD,rfl⟩
 rw [length_map,JL] at eD
 have q3:=q H3 (s12.trans s3)
 have hlo:Zbt fs us f=((Wc fs us f.wd).filter (Wp fs f.nm)).getLast?:=rfl
 rw [hlo] at q3
 generalize (Wc fs us f.wd).filter (Wp fs f.nm)=os at eD q3
 refine ⟨_,rfl,_,.inl ⟨_,SqL.of eD,rfl⟩,?_⟩
 cases hz:os.getLast? with
 | none =>
  rw [List.getLast?_eq_none_iff] at hz
  subst hz
  exact ZP q3
 | some j =>
  rw [hz] at q3
  have hne:os≠[]:=fun z=>by rw [z] at hz;cases hz
  obtain ⟨o1,o2,rfl⟩:=List.exists_cons_of_ne_nil hne
  exact Yk ⟨_,rfl,_,rfl,D,_,_,_,rfl,rfl,SqL.of eD,ZlF hz,q3⟩
def spCb (CT:Addr):Sp:=fun vs H Q _=>∃(t:Addr)(fs:List Fnd)(us:List Bool)(k:Nat)(f:Fnd),vs=[.ref t,.int (k:Int),.int (f.wd:Int)]/\WL CT fs us t H/\fs.length=us.length/\fs.length<=1000/\fs[k]?=some f/\us[k]?=some true/\Zbt fs us f=some k/\∀ H',Same H H'->Q .non H'
abbrev nTCb:List Str:=["self","token","now","world","name","old","unused"]
abbrev ZgO:List Str:=["self","token","now"]
theorem scTCb:Zm nTCb ZgO (Zj c_Tokens_check_back):=⟨rfl,rfl,rfl,by decide +kernel,rfl,by decide +kernel,by decide +kernel⟩
theorem ZpE {f:Addr}{fd:Qm}(F:Fun K "check_back" "Tokens.check_back" c_Tokens_check_back f fd)(T:ZY mg)(TT:WO K CT)(DT_described:DefM P w K mg base 3 CT "described" Zal (Zbh CT))(DT_last_open:DefM P w K mg base 3 CT "last_open" ZfP (spLo CT)):FnOk P w K mg base ZC 4 f fd ZgO (spCb CT):=by
 refine F.ok scTCb (fun vs H Q E h=>?_) (fun cdv A outer s H vs Q E hr h=>?_)
 ·obtain ⟨t,fs,us,k,f,rfl,_⟩:=h;rfl
 obtain ⟨t,fs,us,k,f,rfl,R,hfu,hl,hk,hb,ho,q⟩:=h
 obtain ⟨lf,lu,S⟩:=id R
 obtain ⟨dx,ob⟩:=S.get t
 refine' ⟨?t,?h,?r⟩
 case h =>
  conv=>arg 2;whnf
  with_reducible refine' (Ze ?h1 (Ze (ZZ ?h2 (Zh Vl) ZM) (Ze (ZZ ?h3 (Zh Vl) ZM) (Zh (ZZ ?h4 (Zh Vl) ZM)))))
  case h1=>exact Yu (ZH DT_described TT.cl hr (pv 0) (Zb (pv 1) Za)) (Xz rfl (ZF (ZA (i:=3) scTCb.nd rfl (Qz rfl)) (ZF (ZA (i:=4) scTCb.nd rfl (Qz rfl)) (ZF (ZA (i:=5) scTCb.nd rfl (Qz rfl)) (ZF (ZA (i:=6) scTCb.nd rfl (Qz rfl)) Xb)))))
  case h2=>exact Wn (XS (pv 6))
  case h3=>exact ZL UC (pv 3) (pv 2) (ZJ _)
  case h4=>exact ZL UC (ZH DT_last_open TT.cl hr (pv 0) (Zb (pv 1) Za)) (pv 1) (ZJ _)
 try dsimp only [ZQ,Cx.nox]
 refine zs4 ?_
 intro zD zS zN3 zN2 zN1
 refine ⟨_,rfl,t,dx,_,rfl,ob,WF (by decide +kernel),_,rfl,t,fs,us,k,f,true,rfl,R,hk,hb,fun a H1 s1 ha ea=>?_⟩
 refine ⟨a,_,rfl,SqT.of ea,rfl,_,_,rfl,_,_,rfl,_,_,rfl,_,_,rfl,rfl,?_⟩
 refine ⟨_,rfl,_,rfl,ZP ?_⟩
 refine ⟨_,rfl,_,rfl,rfl,_,rfl,?_⟩
 rw [decide_eq_true (show V.int (f.wd:Int)=V.int (f.wd:Int) from rfl)]
 refine ZP ?_
 obtain ⟨dx1,ob1⟩:=(S.mono s1).get t
 refine ⟨_,rfl,t,dx1,_,rfl,ob1,WF (by decide +kernel),_,rfl,t,fs,us,k,f,true,rfl,⟨lf,lu,S.mono s1⟩,hfu,hl,hk,hb,fun H2 s2=>?_⟩
 rw [ho]
 refine ⟨_,rfl,rfl,_,rfl,?_⟩
 rw [decide_eq_true (show oV (some k)=V.int (k:Int) from rfl)]
 exact ZP (q H2 (s1.trans s2))
def Zdp (K:Qa)(CH CR CS CT:Addr):Sp:=fun vs H Q _=>∃(h:Addr)(s:Hs)(x:Str),vs=[.ref h,.str x]/\UF K CH CR CS CT h s H/\(ZD s.dfs (Qu x)).isSome=true/\Q .non H
theorem Zpo {CX:Addr}{vs:List V}{H:Hp}{Q:VK}{E:XK}(h:Zdp K CH CR CS CT vs H Q E):Zdu K CH CR CS CT CX vs H Q (fun _ _ _=>False):=by
 obtain ⟨h,s,x,e,R,hs,q⟩:=h
 exact ⟨h,s,x,e,R,fun _=>q,fun z=>by rw [z] at hs;cases hs⟩
structure HB (s:Hs):Prop where
 pl:s.pls.length<=9000
 nd:s.nds.length<=80000
 tb:s.tabs.length<=80000
 fd:s.fds.length<=900
 fu:s.fds.length=s.us.length
def UE (s:Hs)(n p:Nat)(st:Stp)(t' c:Nat)(nds:List Nd)(tabs:List (Zn×V)):Hs:={ s with pls:=s.pls++[⟨p,st,t',c⟩],nds:=nds,tabs:=tabs,spots:=s.spots.set n (s.pls.length+1) }
theorem ZgD {NS:List Str}{s:Hs}(I:HI NS s){n p t' c:Nat}{st:Stp}{nds:List Nd}{tabs:List (Zn×V)}(R:RInv NS (s.pls++[⟨p,st,t',c⟩]) nds tabs):HI NS (UE s n p st t' c nds tabs):=by
 refine ⟨I.N,R,fun x hx=>?_⟩
 show x<=(s.pls++[_]).length
 rw [length_append,length_singleton]
 rcases List.mem_or_eq_of_mem_set hx with h | h
 ·have:=I.sp x h;omega
 ·omega
def Zkt (K:Qa)(CH CR CS CT Pl:Addr):Sp:=fun vs H Q _=>∃(NS:List Str)(h:Addr)(s:Hs)(n p:Nat)(x:Str)(v:V)(G:Str->Option V)(Δ:Rs),vs=[.ref h,.str x,v]/\Sep ((h,Xf K CH CR CS CT s)::(Pl,YJ)::Δ) H/\HI NS s/\HB s/\s.ins.getLast?=some n/\s.spots[n]?=some p/\(envs s.pls)[p]?=some G/\x∈NS/\IsVal v/\(ZD s.dfs (Qu x)).isSome=true /\
 ∀ (H':Hp) (t' c:Nat) (nds:List Nd) (tabs:List (Zn×V)),Sep ((h,Xf K CH CR CS CT { UE s n p (.set x v) t' c nds tabs with fds:=s.fds++[⟨n,x,(G x).getD .non⟩],us:=s.us++[true] })::(Pl,YJ)::Δ) H'->HI NS (UE s n p (.set x v) t' c nds tabs)->nds.length<=s.nds.length+6->tabs.length<=s.tabs.length+1->Q (.int (s.fds.length:Int)) H'
abbrev nHSt:List Str:=["self","name","value","world","token"]
abbrev Zgx:List Str:=["self","name","value"]
theorem scHSt:Zm nHSt Zgx (Zj c_Hall_set_to):=⟨rfl,rfl,rfl,by decide +kernel,rfl,by decide +kernel,by decide +kernel⟩
theorem Zng {f:Addr}{fd:Qm}(F:Fun K "set_to" "Hall.set_to" c_Hall_set_to f fd)(T:ZY mg)(TH:Xg K CH)(TR:Wg K CR)(TT:WO K CT)(DH_check_setting:DefM P w K mg base 12 CH "check_setting" Vg (Zdp K CH CR CS CT))(DH_now:DefM P w K mg base 12 CH "now" Zae (ZbN K CH CR CS CT))(DT_make:DefM P w K mg base 12 CT "make" ZgL (spMk CT))(DH_value_in:DefM P w K mg base 12 CH "value_in" Zbs (Zdm K CH CR CS CT))(DH_place:DefM P w K mg base 12 CH "place" Zai (Zbw K CH CR CS CT))(DR_put:DefM P w K mg base 12 CR "put" Zds (ZdR K CR CS Pl)):FnOk P w K mg base ZC 13 f fd Zgx (Zkt K CH CR CS CT Pl):=by
 refine F.ok scHSt (fun vs H Q E h=>?_) (fun cdv A outer s H vs Q E hr h=>?_)
 ·obtain ⟨NS,h,s,n,p,x,v,G,Δ,rfl,_⟩:=h;rfl
 obtain ⟨NS,h,s,n,p,x,v,G,Δ,rfl,S0,I,B,hn,hp,hG,hx,hv,hd,q⟩:=h
 have R:=S0.get h
 obtain ⟨d,r,sp,i,t,S⟩:=S0.halO
 obtain ⟨dx,ob⟩:=S.get h
 obtain ⟨lf,lu,ST⟩:=S.get t
 obtain ⟨dxt,obt⟩:=ST.get t
 have hBf:=B.fd
 have hBu:=B.fu
 refine' ⟨?t,?h,?r⟩
 case h =>
  conv=>arg 2;whnf
  with_reducible refine' (Ze ?h1 (Ze ?h2 (Ze ?h3 (Ze ?h4 (Zh ?h5)))))
  case h1=>exact ZU (ZH DH_check_setting TH.cl hr (pv 0) (Zb (pv 1) Za))
  case h2=>exact Zv (i:=3) scHSt.nd rfl (Qz rfl) (WT DH_now TH.cl hr (pv 0))
  case h3=>exact Zv (i:=4) scHSt.nd rfl (Qz rfl) (ZH DT_make TT.cl hr (Zu (pv 0) rfl) (Zb (pv 3) (Zb (pv 1) (Zb (ZH DH_value_in TH.cl hr (pv 0) (Zb (pv 3) (Zb (pv 1) Za))) Za))))
  case h4=>exact Yu (ZH DR_put TR.cl hr (Zu (pv 0) rfl) (Zb (ZH DH_place TH.cl hr (pv 0) (Zb (pv 3) Za)) (Zb (pv 1) (Zb (pv 2) Za)))) (Wm (Zu (pv 0) rfl) (pv 3) Xi)
  case h5=>exact Zq (pv 4)
 try dsimp only [ZQ,Cx.nox]
 refine zs5 ?_
 intro zD zS zN4 zN3 zN2 zN1
 refine ⟨_,rfl,h,dx,_,rfl,ob,Yg (by decide +kernel),_,rfl,h,s,x,rfl,R,hd,?_⟩
 refine ⟨_,rfl,h,dx,_,rfl,ob,Yg (by decide +kernel),h,s,n,rfl,R,hn,?_⟩
 refine ⟨_,rfl,h,CH,dx,_,_,rfl,ob,TH.cl,TH.nh,Zer,t,dxt,_,rfl,obt,WF (by decide +kernel),_,rfl,_,rfl,_,rfl,h,dx,_,rfl,ob,Yg (by decide +kernel),_,rfl,_,rfl,NS,h,s,n,p,x,G,rfl,R,I,hp,hG,hx,fun H1 s1=>?_⟩
 refine ⟨t,s.fds,s.us,n,x,_,_,rfl,(S.mono s1).pull t,by omega,by omega,fun H2 S2=>?_⟩
 have R2:UF K CH CR CS CT h { s with fds:=s.fds++[⟨n,x,(G x).getD .non⟩],us:=s.us++[true] } H2:=Sep.get (Sep.halC (s:={ s with fds:=s.fds++[⟨n,x,(G x).getD .non⟩],us:=s.us++[true] }) ((((((S2.pull t).pull i).pull sp).pull r).pull d).pull h)) h
 obtain ⟨dx2,ob2⟩:=S2.get h
 obtain ⟨st,la,ls,lt,lc,SR⟩:=S2.get r
 obtain ⟨dxr,obr⟩:=SR.get r
 refine ⟨_,rfl,h,CH,dx2,_,_,rfl,ob2,TH.cl,TH.nw,ZdU,r,dxr,_,rfl,obr,XA (by decide +kernel),_,rfl,h,dx2,_,rfl,ob2,Yg (by decide +kernel),_,rfl,h,_,n,p,rfl,R2,hp,_,rfl,_,rfl,NS,r,s.pls,s.nds,s.tabs,p,x,v,_,rfl,I.N,(S2.pull Pl).pull r,I.R,⟨hx,hv⟩,I.sp p (mem_of_getElem? hp),by have:=B.pl;omega,by have:=B.nd;omega,by have:=B.tb;omega,fun H3 nds' tabs' t' S3 I3 l1 l2=>?_⟩
 obtain ⟨dx3,ob3⟩:=S3.get h
 have hns:=(Qf.mp hp).1
 refine ⟨_,rfl,h,CH,dx3,_,_,rfl,ob3,TH.cl,TH.ns,ZeD,_,rfl,sp,_,_,n,rfl,rfl,S3.get sp,(by unfold XI;rw [length_map,if_pos (by omega)];simp [hns]),?_⟩
 generalize hE:upd H3 sp _=H4
 have S4:=S3.putE hE
 clear hE
 refine ⟨_,rfl,q H4 t' _ nds' tabs' ?_ (ZgD I I3) l1 l2⟩
 refine Sep.halC (d:=d) (r:=r) (sp:=sp) (i:=i) (t:=t) ?_
 show Sep (_::_::_::(sp,Yj ((s.spots.set n (s.pls.length+1)).map nI))::_) _
 rw [map_set]
 exact ((((((S4.pull Pl).pull t).pull i).pull sp).pull r).pull d).pull h
def Zks (K:Qa)(CH CR CS CT:Addr):Sp:=fun vs H Q _=>∃(h:Addr)(s:Hs)(k:Nat)(f:Fnd)(b:Bool),vs=[.ref h,.int (k:Int)]/\UF K CH CR CS CT h s H/\s.fds[k]?=some f/\s.us[k]?=some b/\∀ a H',Same H H'->H a=none->H' a=some (.tup [.int (f.wd:Int),.str f.nm,f.ol,.bl b])->Q (.ref a) H'
abbrev nHTo:List Str:=["self","number"]
abbrev ZfR:List Str:=["self","number"]
theorem ZoB:Zm nHTo ZfR (Zj c_Hall_token):=⟨rfl,rfl,rfl,by decide +kernel,rfl,by decide +kernel,by decide +kernel⟩
theorem Zog {f:Addr}{fd:Qm}(F:Fun K "token" "Hall.token" c_Hall_token f fd)(T:ZY mg)(TH:Xg K CH)(TT:WO K CT)(DT_described:DefM P w K mg base 2 CT "described" Zal (Zbh CT)):FnOk P w K mg base ZC 3 f fd ZfR (Zks K CH CR CS CT):=by
 refine F.ok ZoB (fun vs H Q E h=>?_) (fun cdv A outer s H vs Q E hr h=>?_)
 ·obtain ⟨h,s,k,f,b,rfl,_⟩:=h;rfl
 obtain ⟨h,s,k,f,b,rfl,⟨d,r,sp,i,t,S⟩,hk,hb,q⟩:=h
 obtain ⟨dx,ob⟩:=S.get h
 have R:=S.get t
 obtain ⟨lf,lu,ST⟩:=id R
 obtain ⟨dxt,obt⟩:=ST.get t
 refine' ⟨?t,?h,?r⟩
 case h =>
  conv=>arg 2;whnf
  with_reducible refine' (Zh ?h1)
  case h1=>exact Zq (ZH DT_described TT.cl hr (Zu (pv 0) rfl) (Zb (pv 1) Za))
 try dsimp only [ZQ,Cx.nox]
 exact ⟨_,rfl,h,CH,dx,_,_,rfl,ob,TH.cl,TH.nh,Zer,t,dxt,_,rfl,obt,WF (by decide +kernel),_,rfl,t,s.fds,s.us,k,f,b,rfl,R,hk,hb,q⟩
def Zkp (K:Qa)(CH CR CS CT:Addr):Sp:=fun vs H Q _=>∃(h:Addr)(s:Hs),vs=[.ref h]/\UF K CH CR CS CT h s H/\∀ r,RdR K CR CS r s.pls s.nds s.tabs H->Q (.ref r) H
abbrev nHRo:List Str:=["self"]
abbrev ZgB:List Str:=["self"]
theorem ZoY:Zm nHRo ZgB (Zj c_Hall_roads):=⟨rfl,rfl,rfl,by decide +kernel,rfl,by decide +kernel,by decide +kernel⟩
theorem Znx {f:Addr}{fd:Qm}(F:Fun K "roads" "Hall.roads" c_Hall_roads f fd)(T:ZY mg)(TH:Xg K CH):FnOk P w K mg base ZC 1 f fd ZgB (Zkp K CH CR CS CT):=by
 refine F.ok ZoY (fun vs H Q E h=>?_) (fun cdv A outer s H vs Q E hr h=>?_)
 ·obtain ⟨h,s,rfl,_⟩:=h;rfl
 obtain ⟨h,s,rfl,⟨d,r,sp,i,t,S⟩,q⟩:=h
 obtain ⟨dx,ob⟩:=S.get h
 refine' ⟨?t,?h,?r⟩
 case h =>
  conv=>arg 2;whnf
  with_reducible refine' (Zh ?h1)
  case h1=>exact Zq (Zu (pv 0) rfl)
 try dsimp only [ZQ,Cx.nox]
 exact ⟨_,rfl,h,CH,dx,_,_,rfl,ob,TH.cl,TH.nw,ZdU,q r (S.get r)⟩
def Zka (K:Qa)(CH CR CS CT:Addr):Sp:=fun vs H Q _=>∃(NS:List Str)(h:Addr)(s:Hs)(n p:Nat)(x:Str)(o:V)(G:Str->Option V),vs=[.ref h,.str x,o]/\UF K CH CR CS CT h s H/\HI NS s/\s.ins.getLast?=some n/\s.spots[n]?=some p/\(envs s.pls)[p]?=some G/\x∈NS/\(ZD s.dfs (Qu x)).isSome=true/\∀ H',Same H H'->Q (Uw (G x) o) H'
abbrev nHLr:List Str:=["self","name","other","value"]
abbrev ZfL:List Str:=["self","name","other"]
theorem scHLr:Zm nHLr ZfL (Zj c_Hall_look_or):=⟨rfl,rfl,rfl,by decide +kernel,rfl,by decide +kernel,by decide +kernel⟩
theorem Zoe {f:Addr}{fd:Qm}(F:Fun K "look_or" "Hall.look_or" c_Hall_look_or f fd)(T:ZY mg)(TH:Xg K CH)(DH_check_setting:DefM P w K mg base 12 CH "check_setting" Vg (Zdp K CH CR CS CT))(DH_now:DefM P w K mg base 12 CH "now" Zae (ZbN K CH CR CS CT))(DH_value_in:DefM P w K mg base 12 CH "value_in" Zbs (Zdm K CH CR CS CT)):FnOk P w K mg base ZC 13 f fd ZfL (Zka K CH CR CS CT):=by
 refine F.ok scHLr (fun vs H Q E h=>?_) (fun cdv A outer s H vs Q E hr h=>?_)
 ·obtain ⟨NS,h,s,n,p,x,o,G,rfl,_⟩:=h;rfl
 obtain ⟨NS,h,s,n,p,x,o,G,rfl,R,I,hn,hp,hG,hx,hd,q⟩:=h
 obtain ⟨d,r,sp,i,t,S⟩:=id R
 obtain ⟨dx,ob⟩:=S.get h
 have hv:=(I.R.tr p G _ hG (WK (I.sp p (mem_of_getElem? hp)))).2.2
 refine' ⟨?t,?h,?r⟩
 case h =>
  conv=>arg 2;whnf
  with_reducible refine' (Ze ?h1 (Ze ?h2 (Zh ?h3)))
  case h1=>exact ZU (ZH DH_check_setting TH.cl hr (pv 0) (Zb (pv 1) Za))
  case h2=>exact Zv (i:=3) scHLr.nd rfl (Qz rfl) (ZH DH_value_in TH.cl hr (pv 0) (Zb (WT DH_now TH.cl hr (pv 0)) (Zb (pv 1) Za)))
  case h3=>exact Zq (Yo (Xa (Wh (pv 3))) (pv 2) (pv 3))
 try dsimp only [ZQ,Cx.nox]
 refine zs3 ?_
 intro zD zS zN2 zN1
 refine ⟨_,rfl,h,dx,_,rfl,ob,Yg (by decide +kernel),_,rfl,h,s,x,rfl,R,hd,?_⟩
 refine ⟨_,rfl,h,dx,_,rfl,ob,Yg (by decide +kernel),_,rfl,h,dx,_,rfl,ob,Yg (by decide +kernel),h,s,n,rfl,R,hn,_,rfl,NS,h,s,n,p,x,G,rfl,R,I,hp,hG,hx,fun H1 s1=>?_⟩
 have q1:=q H1 s1
 cases e:G x with
 | none =>
  rw [e] at q1
  exact ⟨_,rfl,_,rfl,Yk ⟨_,rfl,q1⟩⟩
 | some u =>
  have hu:=hv x u e
  rw [e] at q1
  have hne:decide (u=V.non)=false:=decide_eq_false fun z=>by rw [z] at hu;exact hu
  refine ⟨_,rfl,_,rfl,?_⟩
  show if decide (u=V.non)=true then _ else _
  rw [hne]
  exact ZP ⟨_,rfl,q1⟩
end
section
variable {P:Qk}{w:Qv}{K:Qa}{mg:Str->Option Qb}{base:Heap}{CH CR CS CT Pl:Addr}
theorem ifT {c:Bool}{p q:Prop}(h:c=true)(hp:p):if c=true then p else q:=by rw [if_pos h];exact hp
theorem ifF {c:Bool}{p q:Prop}(h:c=false)(hq:q):if c=true then p else q:=by rw [if_neg (by rw [h];decide)];exact hq
def Xy (x:Str)(o:V):Stp:=if o=.non then .clr x else .set x o
def Zku (K:Qa)(CH CR CS CT Pl:Addr):Sp:=fun vs H Q _=>∃(NS:List Str)(h:Addr)(s:Hs)(p k:Nat)(f:Fnd)(Δ:Rs),vs=[.ref h,.int (k:Int)]/\Sep ((h,Xf K CH CR CS CT s)::(Pl,YJ)::Δ) H/\HI NS s/\HB s/\s.ins.getLast?=some f.wd/\s.spots[f.wd]?=some p/\s.fds[k]?=some f/\s.us[k]?=some true/\Zbt s.fds s.us f=some k/\f.nm∈NS/\(f.ol=.non\/IsVal f.ol) /\
 ∀ (H':Hp) (t' c:Nat) (nds:List Nd) (tabs:List (Zn×V)),Sep ((h,Xf K CH CR CS CT { UE s f.wd p (Xy f.nm f.ol) t' c nds tabs with us:=s.us.set k false })::(Pl,YJ)::Δ) H'->HI NS (UE s f.wd p (Xy f.nm f.ol) t' c nds tabs)->nds.length<=s.nds.length+6->tabs.length<=s.tabs.length+1->Q .non H'
abbrev nHBa:List Str:=["self","token","world","name","old","unused"]
abbrev ZfO:List Str:=["self","token"]
theorem scHBa:Zm nHBa ZfO (Zj c_Hall_back):=⟨rfl,rfl,rfl,by decide +kernel,rfl,by decide +kernel,by decide +kernel⟩
theorem ZnM {f:Addr}{fd:Qm}(F:Fun K "back" "Hall.back" c_Hall_back f fd)(T:ZY mg)(TH:Xg K CH)(TR:Wg K CR)(TT:WO K CT)(DH_now:DefM P w K mg base 12 CH "now" Zae (ZbN K CH CR CS CT))(DT_check_back:DefM P w K mg base 12 CT "check_back" ZgO (spCb CT))(DT_described:DefM P w K mg base 12 CT "described" Zal (Zbh CT))(DT_use:DefM P w K mg base 12 CT "use" ZfY (Zkf CT))(DH_place:DefM P w K mg base 12 CH "place" Zai (Zbw K CH CR CS CT))(DR_put:DefM P w K mg base 12 CR "put" Zds (ZdR K CR CS Pl))(DR_clear:DefM P w K mg base 12 CR "clear" Zgi (ZhQ K CR CS Pl)):FnOk P w K mg base ZC 13 f fd ZfO (Zku K CH CR CS CT Pl):=by
 refine F.ok scHBa (fun vs H Q E h=>?_) (fun cdv A outer s H vs Q E hr h=>?_)
 ·obtain ⟨NS,h,s,p,k,f,Δ,rfl,_⟩:=h;rfl
 obtain ⟨NS,h,s,p,k,f,Δ,rfl,S0,I,B,hn,hp,hk,hb,ho,hx,hv,q⟩:=h
 have R:=S0.get h
 obtain ⟨d,r,sp,i,t,S⟩:=S0.halO
 obtain ⟨dx,ob⟩:=S.get h
 have RT:=S.get t
 obtain ⟨lf,lu,ST⟩:=id RT
 obtain ⟨dxt,obt⟩:=ST.get t
 have hBf:=B.fd
 have hBu:=B.fu
 have hns:=(Qf.mp hp).1
 have hku:=(Qf.mp hb).1
 refine' ⟨?t,?h,?r⟩
 case h =>
  conv=>arg 2;whnf
  with_reducible refine' (Ze ?h1 (Ze ?h2 (XC (ZZ ?h3 (Zh ?h4) (Zh ?h5)) (Zh ?h6))))
  case h1=>exact ZU (ZH DT_check_back TT.cl hr (Zu (pv 0) rfl) (Zb (pv 1) (Zb (WT DH_now TH.cl hr (pv 0)) Za)))
  case h2=>exact Yu (ZH DT_described TT.cl hr (Zu (pv 0) rfl) (Zb (pv 1) Za)) (Xz rfl (ZF (ZA (i:=2) scHBa.nd rfl (Qz rfl)) (ZF (ZA (i:=3) scHBa.nd rfl (Qz rfl)) (ZF (ZA (i:=4) scHBa.nd rfl (Qz rfl)) (ZF (ZA (i:=5) scHBa.nd rfl (Qz rfl)) Xb)))))
  case h3=>exact Xa (Wh (pv 4))
  case h4=>exact Yu (ZH DR_clear TR.cl hr (Zu (pv 0) rfl) (Zb (ZH DH_place TH.cl hr (pv 0) (Zb (pv 2) Za)) (Zb (pv 3) Za))) (Wm (Zu (pv 0) rfl) (pv 2) Xi)
  case h5=>exact Yu (ZH DR_put TR.cl hr (Zu (pv 0) rfl) (Zb (ZH DH_place TH.cl hr (pv 0) (Zb (pv 2) Za)) (Zb (pv 3) (Zb (pv 4) Za)))) (Wm (Zu (pv 0) rfl) (pv 2) Xi)
  case h6=>exact ZU (ZH DT_use TT.cl hr (Zu (pv 0) rfl) (Zb (pv 1) Za))
 try dsimp only [ZQ,Cx.nox]
 refine zs3 ?_
 intro zD zS zN2 zN1
 refine ⟨_,rfl,h,CH,dx,_,_,rfl,ob,TH.cl,TH.nh,Zer,t,dxt,_,rfl,obt,WF (by decide +kernel),_,rfl,_,rfl,h,dx,_,rfl,ob,Yg (by decide +kernel),h,s,f.wd,rfl,R,hn,t,s.fds,s.us,k,f,rfl,RT,hBu,by omega,hk,hb,ho,fun H1 s1=>?_⟩
 have S1:=S.mono s1
 obtain ⟨dx1,ob1⟩:=S1.get h
 have RT1:=S1.get t
 obtain ⟨lf1,lu1,ST1⟩:=id RT1
 obtain ⟨dxt1,obt1⟩:=ST1.get t
 refine ⟨_,rfl,h,CH,dx1,_,_,rfl,ob1,TH.cl,TH.nh,Zer,t,dxt1,_,rfl,obt1,WF (by decide +kernel),_,rfl,t,s.fds,s.us,k,f,true,rfl,RT1,hk,hb,fun a H2 s2 ha ea=>?_⟩
 refine ⟨a,_,rfl,SqT.of ea,rfl,_,_,rfl,_,_,rfl,_,_,rfl,_,_,rfl,rfl,?_⟩
 have R2:UF K CH CR CS CT h s H2:=Sep.get (S0.mono (s1.trans s2)) h
 have S2:=S1.mono s2
 obtain ⟨dx2,ob2⟩:=S2.get h
 obtain ⟨st,la,ls,lt,lc,SR⟩:=S2.get r
 obtain ⟨dxr,obr⟩:=SR.get r
 refine ⟨fun σ' H'=>∃ (t' c:Nat) (nds:List Nd) (tabs:List (Zn×V)),σ'=[some (.ref h),some (.int (k:Int)),some (.int (f.wd:Int)),some (.str f.nm),some f.ol,some (.bl true)]/\Sep ((h,Xf K CH CR CS CT (UE s f.wd p (Xy f.nm f.ol) t' c nds tabs))::(Pl,YJ)::Δ) H'/\HI NS (UE s f.wd p (Xy f.nm f.ol) t' c nds tabs)/\nds.length<=s.nds.length+6/\tabs.length<=s.tabs.length+1,?_,?_⟩
 ·have fin:∀ {H3 H4:Hp} {nds':List Nd} {tabs':List (Zn×V)} {t':Nat},Sep ((r,Va K CR CS (s.pls++[⟨p,Xy f.nm f.ol,t',nds'.length - s.nds.length⟩]) nds' tabs')::(Pl,YJ)::(h,Xq CH (VC d r sp i t))::(d,Xu s.dfs)::(sp,Yj (s.spots.map nI))::(i,Yj (s.ins.map nI))::(t,WL CT s.fds s.us)::Δ) H3->upd H3 sp (.lst ((s.spots.map nI).set f.wd (.int ((s.pls.length+1:Nat):Int))))=H4->Sep ((h,Xf K CH CR CS CT (UE s f.wd p (Xy f.nm f.ol) t' (nds'.length - s.nds.length) nds' tabs'))::(Pl,YJ)::Δ) H4:=fun S3 hE=>by
   have S4:=S3.putE hE
   refine Sep.halC (d:=d) (r:=r) (sp:=sp) (i:=i) (t:=t) ?_
   show Sep (_::_::_::(sp,Yj ((s.spots.set f.wd (s.pls.length+1)).map nI))::_) _
   rw [map_set]
   exact ((((((S4.pull Pl).pull t).pull i).pull sp).pull r).pull d).pull h
  have S3:=((S2.pull Pl).pull r)
  by_cases hol:f.ol=.non
  ·have hst:Xy f.nm f.ol=.clr f.nm:=if_pos hol
   rw [hst] at fin ⊢
   refine ⟨_,rfl,_,rfl,ifT (decide_eq_true hol) ?_⟩
   refine ⟨_,rfl,h,CH,dx2,_,_,rfl,ob2,TH.cl,TH.nw,ZdU,r,dxr,_,rfl,obr,XA (by decide +kernel),_,rfl,h,dx2,_,rfl,ob2,Yg (by decide +kernel),_,rfl,h,s,f.wd,p,rfl,R2,hp,_,rfl,NS,r,s.pls,s.nds,s.tabs,p,f.nm,_,rfl,I.N,S3,I.R,hx,I.sp p (mem_of_getElem? hp),by have:=B.pl;omega,by have:=B.nd;omega,by have:=B.tb;omega,fun H3 nds' tabs' t' S3 I3 l1 l2=>?_⟩
   obtain ⟨dx3,ob3⟩:=S3.get h
   exact ⟨_,rfl,h,CH,dx3,_,_,rfl,ob3,TH.cl,TH.ns,ZeD,_,rfl,sp,_,_,f.wd,rfl,rfl,S3.get sp,(by unfold XI;rw [length_map,if_pos (by omega)];simp [hns]),t',_,nds',tabs',rfl,fin S3 rfl,ZgD I I3,l1,l2⟩
  ·have hst:Xy f.nm f.ol=.set f.nm f.ol:=if_neg hol
   have hv:IsVal f.ol:=hv.resolve_left hol
   rw [hst] at fin ⊢
   refine ⟨_,rfl,_,rfl,ifF (decide_eq_false hol) ?_⟩
   refine ⟨_,rfl,h,CH,dx2,_,_,rfl,ob2,TH.cl,TH.nw,ZdU,r,dxr,_,rfl,obr,XA (by decide +kernel),_,rfl,h,dx2,_,rfl,ob2,Yg (by decide +kernel),_,rfl,h,s,f.wd,p,rfl,R2,hp,_,rfl,_,rfl,NS,r,s.pls,s.nds,s.tabs,p,f.nm,f.ol,_,rfl,I.N,S3,I.R,⟨hx,hv⟩,I.sp p (mem_of_getElem? hp),by have:=B.pl;omega,by have:=B.nd;omega,by have:=B.tb;omega,fun H3 nds' tabs' t' S3 I3 l1 l2=>?_⟩
   obtain ⟨dx3,ob3⟩:=S3.get h
   exact ⟨_,rfl,h,CH,dx3,_,_,rfl,ob3,TH.cl,TH.ns,ZeD,_,rfl,sp,_,_,f.wd,rfl,rfl,S3.get sp,(by unfold XI;rw [length_map,if_pos (by omega)];simp [hns]),t',_,nds',tabs',rfl,fin S3 rfl,ZgD I I3,l1,l2⟩
 ·rintro σ H3 ⟨t',c,nds,tabs,rfl,S3,I3,l1,l2⟩
  obtain ⟨d,r,sp,i,t,S4⟩:=S3.halO
  obtain ⟨dx4,ob4⟩:=S4.get h
  obtain ⟨lf4,lu4,ST4⟩:=S4.get t
  obtain ⟨dxt4,obt4⟩:=ST4.get t
  refine ⟨_,rfl,h,CH,dx4,_,_,rfl,ob4,TH.cl,TH.nh,Zer,t,dxt4,_,rfl,obt4,WF (by decide +kernel),_,rfl,t,s.fds,s.us,k,_,rfl,S4.pull t,hku,fun H5 S5=>?_⟩
  exact q H5 t' c nds tabs (Sep.halC (s:={ UE s f.wd p (Xy f.nm f.ol) t' c nds tabs with us:=s.us.set k false }) (d:=d) (r:=r) (sp:=sp) (i:=i) (t:=t) ((((((S5.pull Pl).pull t).pull i).pull sp).pull r).pull d |>.pull h)) I3 l1 l2
end
section
variable {P:Qk}{w:Qv}{K:Qa}{mg:Str->Option Qb}{base:Heap}
abbrev nNm:List Str:=["_law_box_here","_law_many","_law_letters","_law_size","_law_stem","_law_first","_law_step","_law_at","_law_found","_law_k","_law_one","_law_other"]
abbrev ZjT:List Str:=["_law_box_here","_law_many"]
theorem scNm:Zm nNm ZjT (Zj s_l_names):=⟨rfl,rfl,rfl,by decide +kernel,rfl,by decide +kernel,by decide +kernel⟩
theorem ZjC {f:Addr}{fd:Qm}(F:Fun K "_law_names" "_law_names" s_l_names f fd)(T:ZY mg)(DT:DTk P w K mg base 1):FnOk P w K mg base ZC 2 f fd ZjT Zei:=by
 refine F.ok scNm (fun vs H Q E h=>?_) (fun cdv A outer s H vs Q E hr h=>?_)
 ·obtain ⟨p,n,many,Δ,rfl,_⟩:=h;rfl
 obtain ⟨p,n,many,Δ,rfl,S,hn,h0,h1,q⟩:=h
 have hr1:=hr
 refine' ⟨?t,?h,?r⟩
 case h =>
  conv=>arg 2;whnf
  with_reducible refine' (Ze ?h1 (Ze ?h2 (Ze ?h3 (Ze ?h4 (Ze (WJ ?h5 ?h6 ?h7 ?h8 (Ze ?h9 (Zh ?h10)) ?h11) (Zh ?h12))))))
  case h1=>exact Yu (Yi (Zb ZS (Zb (Zx YI Zi (ZI DT hr1 (Zb (pv 0) (Zb Zi Za)))) Za))) (Xz rfl (ZF (ZA (i:=2) scNm.nd rfl (SX rfl)) (ZF (ZA (i:=3) scNm.nd rfl (Qz rfl)) Xb)))
  case h2=>exact Zv (i:=4) scNm.nd rfl (Qz rfl) (YS Ra Rn Ro ZfA ZS (Zb (Zah (CompOk.of nNm s_l_names rfl rfl (by decide +kernel)) rfl (Xx rfl T.range (Zb (Zx Xt (pv 3) Zi) Za))  (fun _ _ _ _ _=>Zz Zbf (pv 2) (ZI DT hr1 (Zb (pv 0) (Zb Zi Za))) (fun _ _=>rfl))) Za))
  case h3=>exact ZlO (i:=5) (j:=6) (k:=7) rfl scNm.nd rfl rfl rfl (by decide) (by decide) (by decide) rfl rfl rfl (Zb (ZI DT hr1 (Zb (pv 0) (Zb Zi Za))) (Zb (Zz ZB (ZX (Zb Zi (Zb Zi (Zb Zi (Zb Zi Za))))) (ZI DT hr1 (Zb (pv 0) (Zb Zi Za))) (fun _ _=>rfl)) (Zb (ZI DT hr1 (Zb (pv 0) (Zb (Zx Xt (pv 3) Zi) Za))) Za))) rfl
  case h4=>exact Zv (i:=8) scNm.nd rfl (Qz rfl) (ZX Za)
  case h5=>exact Gi
  case h6=>exact rfl
  case h7=>exact Xx rfl T.range (Zb (pv 1) Za)
  case h8=>exact ZA (i:=9) scNm.nd rfl (Qz rfl)
  case h9=>exact Yu (Zr ZeN rfl T.divmod (by decide +kernel) (Zb (Zx XU (Zx YI (pv 5) (Zx We (pv 6) (pv 9))) Zi) (Zb Zi Za))) (Xz rfl (ZF (ZA (i:=10) scNm.nd rfl (Qz rfl)) (ZF (ZA (i:=11) scNm.nd rfl (Qz rfl)) Xb)))
  case h10=>exact ZU (YS QB QJ QK Ys (pv 8) (Zb (Zx Vh (Zx Vh (Zx Vh (ZaU Zhh (pv 4) Zcb (Zct (pv 7))) (Zz Zbf (pv 2) (pv 10) (fun _ _=>rfl))) (Zz Zbf (pv 2) (pv 11) (fun _ _=>rfl))) (ZaU Zhh (pv 4) (Zct (pv 7)) Zcb)) Za))
  case h11=>exact fun _=>rfl
  case h12=>exact Zq (pv 8)
 try dsimp only [ZQ,Cx.nox]
 refine zs6 ?_
 intro zD zS zN5 zN4 zN3 zN2 zN1
 refine ⟨_,rfl,p,_,7,_,rfl,S,by omega,by decide,by decide,fun r1 H1 a0 a1 S1=>⟨_,_,rfl,rfl,(by show 2<=Qi;decide),fun t ht=>⟨t,_,rfl,SqT.of Zf,rfl,_,_,rfl,_,_,rfl,rfl,?_⟩⟩⟩
 generalize hE:upd H1 t _=H2
 have S2:=(S1.newE ht hE).tail
 clear hE
 refine ⟨rfl,_,rfl,_,_,rfl,rfl,_,rfl,by omega,by omega,fun D hD=>?_⟩
 have e1:(2+r1 - 2).toNat=r1.toNat:=by omega
 rw [e1]
 refine ZeO (Xl (show r1.toNat<=1000 by omega)) S2 hD (fun i ys Δ'=>∃ zs:List Str,ys=zs.map V.str/\(∀ z∈zs,∃ c,z=⟨#[c]⟩/\ZbV c=true)/\Δ'=(p,Bx (n+1+i))::Δ) ⟨[],rfl,(fun _ h=>nomatch h),rfl⟩ ?_ ?_
 ·rintro i ys Δ' H' hi hl ⟨zs,rfl,hz,rfl⟩ S'
  refine ⟨_,rfl,_,rfl,p,_,26,_,rfl,S'.pull p,by omega,by decide,by decide,fun r3 H3 b0 b1 S3=>?_⟩
  obtain ⟨c,hc,hcl⟩:=Zcq (x:=a26) ZbY b0 (by rw [WX];exact b1)
  refine ⟨a26,r3,c,rfl,rfl,by rw [WX];decide,hc,_,⟨zs++[⟨#[c]⟩],by rw [map_append];rfl,?_,rfl⟩,S3.pull D⟩
  intro z hz'
  rcases mem_append.mp hz' with h | h
  ·exact hz z h
  ·rw [mem_singleton.mp h];exact ⟨c,rfl,hcl⟩
 rintro ys Δ' H3 ⟨zs,rfl,hz,rfl⟩ hl S3
 rw [length_map] at hl
 obtain ⟨g1,g2,g3⟩:=Zhm hz
 refine ⟨_,D,zs,rfl,rfl,SqL.of (S3.get D),by omega,?_⟩
 have S4:=S3.tail
 generalize Txt.join (QA "") zs=stem at *
 refine ⟨_,rfl,p,_,676,_,rfl,S4,by omega,by decide,by decide,fun r5 H5 b0 b1 S5=>⟨(by show 4<=Qi;decide),fun l hl4=>?_⟩⟩
 generalize hE:upd H5 l _=H6
 have S6:=S5.newE hl4 hE
 clear hE
 refine ⟨_,rfl,p,_,4,_,rfl,S6.pull p,by omega,by decide,by decide,fun r7 H7 c0 c1 S7=>?_⟩
 obtain ⟨sv,hsm,hsv⟩:=ZkN (xs:=[.int 1,.int 27,.int 5,.int 251]) c0 c1
 obtain ⟨stp,rfl,hst,hst4⟩:∃ z:Int,sv=.int z/\(0<=z/\z<=251)/\(z=1\/z=27\/z=5\/z=251):=by
  simp only [mem_cons,SE,or_false] at hsm
  rcases hsm with rfl | rfl | rfl | rfl<;>exact ⟨_,rfl,⟨by decide,by decide⟩,by decide⟩
 refine ⟨l,_,_,_,rfl,rfl,SqL.of (S7.get l),hsv,?_⟩
 have S8:=S7.drop l
 refine ⟨_,rfl,_,rfl,_,_,rfl,rfl,p,_,_,_,rfl,S8,by omega,by omega,by omega,fun r9 H9 d0 d1 S10=>⟨_,_,_,rfl,?_⟩⟩
 refine ⟨(by show 0<=Qi;decide),fun fl hfl=>?_⟩
 generalize hE:upd H9 fl _=H11
 have S11:=S10.newE hfl hE
 clear hE
 refine ⟨_,rfl,many,rfl,by omega,by omega,?_⟩
 refine Uy (fun i σ H'=>∃ x9 x10 x11 xs,σ=[some (.ref p),some (.int many),some (.str a26),some (.int (2+r1)),some (.str stem),some (.int r5),some (.int stp),some (.int r9),some (.ref fl),x9,x10,x11]/\Sep ((fl,Yj (xs.map V.str))::(p,Bx (n+20))::Δ) H'/\xs.length=i/\(∀ x∈xs,Um x)/\∀ (j:Nat) (x:Str),xs[j]?=some x->ZfT (Txt.slice stem none (some r9)) (Txt.slice stem (some r9) none) ((r5+stp * (0+(j:Int))) % 676) x)
  ⟨_,_,_,[],rfl,(S11.pull p).le (by omega) |>.pull fl,rfl,(fun _ h=>nomatch h),fun _ _ h=>nomatch h⟩ ?_ ?_
 ·rintro i σ H' hi ⟨x9,x10,x11,xs,rfl,S',hxl,hxs,hnm⟩
  have hb:0<=stp * (0+(i:Int)):=Int.mul_nonneg hst.1 (by omega)
  refine ⟨_,rfl,_,rfl,_,rfl,_,_,rfl,rfl,.inl ⟨by omega,by omega⟩,_,_,rfl,rfl,_,_,rfl,rfl,(by show (0:Int) < 676;decide),?_⟩
  obtain ⟨z,hz⟩:∃ z:Int,(r5+stp * (0+(i:Int))) % 676=z:=⟨_,rfl⟩
  have hz0:0<=z:=by rw [<- hz];exact GF _ (by decide)
  have hz1:z < 676:=by rw [<- hz];exact Gy _ (by decide)
  refine ⟨z,26,congrArg (fun y=>[V.int y,V.int 26]) hz,⟨by decide,by decide⟩,fun t2 ht2=>⟨t2,_,rfl,SqT.of Zf,rfl,_,_,rfl,_,_,rfl,rfl,?_⟩⟩
  generalize hE:upd H' t2 _=H12
  have S12:=(S'.newE ht2 hE).tail
  clear hE
  obtain ⟨c1',hc1,hcl1⟩:=Zcq (x:=a26) ZbY (r:=z / 26) (by omega) (by rw [WX];omega)
  obtain ⟨c2',hc2,hcl2⟩:=Zcq (x:=a26) ZbY (r:=z % 26) (by omega) (by rw [WX];omega)
  have hsl:=Zic (x:=stem) d0 (by omega)
  refine ⟨_,rfl,.inl ⟨rfl,_,SqL.of (S12.get fl)⟩,_,rfl,_,rfl,r9,rfl,stem,rfl,Xl (show stem.length<=1000 by omega),_,rfl,_,rfl,a26,_,c1',rfl,rfl,by rw [WX];decide,hc1,_,_,rfl,rfl,Xl (show _<=1000 by rw [WC];omega),?_⟩
  refine ⟨_,rfl,_,rfl,a26,_,c2',rfl,rfl,by rw [WX];decide,hc2,_,_,rfl,rfl,Xl (show _<=1000 by rw [Xd,WC,WC];omega),_,rfl,_,rfl,r9,rfl,stem,rfl,Xl (show stem.length<=1000 by omega),_,_,rfl,rfl,Xl (show _<=1000 by rw [Xd,Xd,WC,WC];omega),?_⟩
  refine ⟨fl,_,_,rfl,rfl,S12.get fl,YG (show _<=1000 by rw [length_map];omega),?_⟩
  have S13:=S12.put fl (.lst (xs.map V.str++[.str (Txt.slice stem none (some r9)++(⟨#[c1']⟩:Str)++(⟨#[c2']⟩:Str)++Txt.slice stem (some r9) none)]))
  refine ⟨_,_,_,xs++[Txt.slice stem none (some r9)++(⟨#[c1']⟩:Str)++(⟨#[c2']⟩:Str)++Txt.slice stem (some r9) none],rfl,by rw [map_append];exact S13,by simp [hxl],fun x hx=>?_,fun j x hx=>?_⟩
  ·rcases mem_append.mp hx with h | h
   ·exact hxs x h
   ·rw [mem_singleton.mp h]
    refine ⟨?_,?_,ZaH (ZaH (ZaH (ZbT g3) (ZeI hcl1)) (ZeI hcl2)) (ZbT g3)⟩<;>(rw [Xd,Xd,Xd,WC,WC];omega)
  ·by_cases hj:j < xs.length
   ·rw [getElem?_append_left hj] at hx;exact hnm j x hx
   ·have hj2:j=i:=by
     have:=(Qf.mp hx).1
     rw [length_append,length_singleton] at this;omega
    subst hj2
    rw [getElem?_append_right (by omega),show j - xs.length=0 by omega] at hx
    cases (show some _=some x from hx)
    rw [hz];exact ⟨c1',c2',rfl,hc1,hc2⟩
 ·rintro σ H' ⟨x9,x10,x11,xs,rfl,S',hxl,hxs,hnm⟩
  exact ⟨_,rfl,q fl H' xs S' hxl hxs (Zhl hst4 (by omega) hnm)⟩
end
def mkB:Nat->Int
 | 0=>0
 | i+1=>mkB i+((i:Int)+1) * 26
theorem ZiB {l:List Nat}:∀ i,i<=l.length->l.all ZbV=true->0<=Wt l i/\Wt l i<=mkB i
 | 0,_,_=>⟨Int.le_refl _,Int.le_refl _⟩
 | i+1,hi,ha=>by
  obtain ⟨h0,h1⟩:=ZiB i (by omega) ha
  have hlj:i < l.length:=hi
  have hc:=all_eq_true.mp ha _ (PF hlj)
  have hg:l.getD i 0=l[i]:=by rw [getD_eq_getElem?_getD,getElem?_eq_getElem hlj];rfl
  unfold ZbV at hc
  simp only [QL,decide_eq_true_eq] at hc
  show 0<=Wt l i+((i:Int)+1) * (((l.getD i 0:Nat):Int) - 97+1)/\Wt l i+((i:Int)+1) * (((l.getD i 0:Nat):Int) - 97+1)<=mkB i+((i:Int)+1) * 26
  rw [hg]
  have p0:(0:Int)<=((i:Int)+1) * (((l[i]:Nat):Int) - 97+1):=Int.mul_nonneg (by omega) (by omega)
  have p1:((i:Int)+1) * (((l[i]:Nat):Int) - 97+1)<=((i:Int)+1) * 26:=Int.mul_le_mul_of_nonneg_left (by omega) (by omega)
  omega
theorem ZpC {NS:List Str}(hl:NS.length < 64)(h:∀ x∈NS,Um x):Yq NS:=by
 have b:∀ x∈NS,0<=Zy x/\Zy x < 1024:=fun x hx=>by
  obtain ⟨h1,h8,ha⟩:=h x hx
  obtain ⟨g0,g1⟩:=ZiB (l:=x.cps.toList) x.length (by rw [<- Yr];exact Qh _) ha
  have hB:∀ i,i<=8->mkB i < 1024:=by decide
  have:=hB x.length h8
  exact ⟨g0,by show Wt _ _ < _;omega⟩
 exact ⟨by omega,fun x hx=>by have:=(h x hx).2.1;omega,fun x hx=>(b x hx).1,fun x hx=>(b x hx).2⟩
theorem ZoD {NS:List Str}:RInv NS [] [.bare] [(QT 0,.bl true)]:=by
 refine ⟨fun k q e=>by simp at e,fun k F t e1 e2=>?_⟩
 cases k with
 | zero =>
  cases (show some (fun _=>none)=some F from e1)
  cases (show some 0=some t from e2)
  exact ⟨rfl,.inl (.inl ⟨rfl,rfl,fun _ _ _=>rfl⟩),fun x u z=>by cases z⟩
 | succ k=>simp [envs] at e1
end K36
namespace L2
open PySem
theorem Zmg {v:V}(h:Ym v):(YE v).canLay0=true:=by
 rcases h with rfl | h
 ·rfl
 ·exact Zhx h
theorem Zlx {K:Qa}{H:Hp}{v:V}(h:Ym v):DatT K H v (YE v):=by
 rcases h with rfl | h
 ·exact .non
 ·cases v<;>first | exact .int _ | exact .str _ | exact h.elim
theorem ZnV {v:V}:(YE v).depth=0:=by cases v<;>rfl
def ZjF (ts:List V):PyData:=.tuple (ts.map YE)
theorem VZ {K:Qa}{H:Hp}:∀{vs:List V},(∀ v∈vs,Ym v)->DatTs K H vs (vs.map YE)
 | [],_=>.nil
 | v::r,h=>.cons (Zlx (h v mem_cons_self)) (VZ fun u hu=>h u (mem_cons_of_mem _ hu))
theorem ZaL:∀{vs:List V},(∀ v∈vs,Ym v)->Ja (vs.map YE)=true/\Gh (vs.map YE)=0
 | [],_=>⟨rfl,rfl⟩
 | v::r,h=>by
  obtain ⟨z1,z2⟩:=ZaL (vs:=r) fun q hq=>h q (mem_cons_of_mem _ hq)
  rw [map_cons,Ja,z1,Gh,z2,Zmg (h v mem_cons_self),ZnV]
  exact ⟨rfl,rfl⟩
theorem TLs.tl {H:Hp}{a:Addr}{as:List Addr}{ts:List V}{tss:List (List V)}(h:TLs H (a::as) (ts::tss)):TLs H as tss:=⟨by simpa using h.1,fun i a q e1 e2=>h.2 (i+1) a q e1 e2⟩
theorem Vq {K:Qa}{H:Hp}:∀{as:List Addr}{tss:List (List V)},TLs H as tss->(∀ ts∈tss,∀ v∈ts,Ym v)->DatTs K H (as.map V.ref) (tss.map ZjF)
 | [],[],_,_=>.nil
 | [],_::_,h,_=>by cases h.1
 | _::_,[],h,_=>by cases h.1
 | a::as,ts::tss,h,hv=>.cons (.tup (SqT.of (h.2 0 a ts rfl rfl)) (VZ (hv ts mem_cons_self))) (Vq h.tl fun q hq=>hv q (mem_cons_of_mem _ hq))
theorem Zak:∀{tss:List (List V)},(∀ ts∈tss,∀ v∈ts,Ym v)->Ja (tss.map ZjF)=true/\Gh (tss.map ZjF)<=50
 | [],_=>⟨rfl,by decide⟩
 | ts::r,h=>by
  obtain ⟨z1,z2⟩:=Zak (tss:=r) fun q hq=>h q (mem_cons_of_mem _ hq)
  obtain ⟨y1,y2⟩:=ZaL (h ts mem_cons_self)
  rw [map_cons,Ja,z1,Gh]
  refine ⟨?_,?_⟩
  ·show (Ja (ts.map YE)&&true)=true
   rw [y1];rfl
  ·show max (Gh (ts.map YE)+1) _<=50
   rw [y2];omega
def NbV (v:V):Prop:=(∃ b,v=.bl b)\/Ym v
def vD:V->Ta
 | .bl b=>.bool b
 | v=>YE v
theorem Zlh {H:Hp}{v:V}(h:NbV v):DataOf H v (vD v):=by
 rcases h with ⟨b,rfl⟩ | rfl | h
 ·exact .bl b
 ·exact .non
 ·cases v<;>first | exact .int _ | exact .str _ | exact h.elim
theorem Zon {v:V}(h:NbV v):Sml (vD v) 200 0:=by
 rcases h with ⟨b,rfl⟩ | h
 ·cases b
  ·exact ⟨rfl,by show 5<=200;decide,QC _⟩
  ·exact ⟨rfl,by show 4<=200;decide,QC _⟩
 ·have:=Zbo h 0
  rcases h with rfl | h
  ·exact this
  ·cases v<;>first | exact this | exact h.elim
def Zcw (ts:List V):PyData:=.tuple (ts.map vD)
theorem Zeg {H:Hp}:∀{vs:List V},(∀ v∈vs,NbV v)->DatasOf H vs (vs.map vD)
 | [],_=>.nil
 | v::r,h=>.cons (Zlh (h v mem_cons_self)) (Zeg fun u hu=>h u (mem_cons_of_mem _ hu))
theorem ZdL {H:Hp}:∀{as:List Addr}{tss:List (List V)},TLs H as tss->(∀ ts∈tss,∀ v∈ts,NbV v)->DatasOf H (as.map V.ref) (tss.map Zcw)
 | [],[],_,_=>.nil
 | [],_::_,h,_=>by cases h.1
 | _::_,[],h,_=>by cases h.1
 | a::as,ts::tss,h,hv=>.cons (.tup (h.2 0 a ts rfl rfl) (Zeg (hv ts mem_cons_self))) (ZdL h.tl fun q hq=>hv q (mem_cons_of_mem _ hq))
theorem Zek {H:Hp}{a:Addr}{as:List Addr}{tss:List (List V)}(e:H a=some (.lst (as.map V.ref)))(h:TLs H as tss)(hv:∀ ts∈tss,ts.length<=5/\∀ v∈ts,NbV v)(hl:tss.length<=1000):DataOf H (.ref a) (.list (tss.map Zcw))/\(RM (tss.map Zcw)).showable=true/\(RM (tss.map Zcw)).shown.length<=Qi/\(RM (tss.map Zcw)).depth<=60:=by
 have s:=Zjn (ds:=tss.map Zcw) (n:=1013) (k:=1) fun d hd=>by
  obtain ⟨ts,hts,rfl⟩:=mem_map.mp hd
  have z:=ZcW (ds:=ts.map vD) (n:=200) (k:=0) fun d hd=>by
   obtain ⟨v,hv',rfl⟩:=mem_map.mp hd
   exact Zon ((hv ts hts).2 v hv')
  have h5:ts.length * (200+2)<=5 * 202:=JI _ (hv ts hts).1
  rw [length_map] at z
  exact ⟨z.sh,Qn z.ln (by omega),z.dp⟩
 refine ⟨.lst e (ZdL h fun ts hts=>(hv ts hts).2),s.sh,Qn s.ln ?_,Qn s.dp (by decide)⟩
 rw [length_map]
 have:tss.length * (1013+2)<=1000 * 1015:=JI _ hl
 rw [QU];omega
theorem ZkW {H:Hp}{v:V}(h:Ym v):DataOf H v (YE v)/\(YE v).showable=true/\(YE v).shown.length<=Qi/\(YE v).depth<=60:=by
 have s:=Zbo h 0
 exact ⟨Zce h,s.sh,Qn s.ln (by rw [QU];omega),Qn s.dp (by decide)⟩
def Zob (X:Cx)(t:TS):TS:=fun D σ H=>t { D with nx:=fun σ H2=>∃ d o kvs,H2 d=some (.frz o (.dK kvs))/\Zgy X d/\D.nx σ (upd H2 d (.dK kvs)) } σ H
theorem ZlT {X:Cx}{st:Stmt}{t:TS}(h:PS X st t):PS X st (Zob X t):=by
 intro pins s σ H D I z
 refine Zs (h pins s σ H _ I z) fun f s1 q=>?_
 cases f with
 | next =>
  obtain ⟨σ',H',I',d,o,kvs,e,nf,q⟩:=q
  exact ⟨σ',_,I'.melt e nf,q⟩
 | ret v=>exact q
 | brk=>exact q
 | cont=>exact q
theorem ZjP {o:Obj}{d:Addr}{kvs:List (Zn×V)}{g:TG}{tb:TS}{D:YA}{σ:St}{H:Hp}(Pv:Nat->St->Hp->Prop)(h0:Pv 0 σ H)(hl:∀ i σ H,i<=kvs.length->Pv i σ H->H d=some (.frz o (.dK kvs)))
 (hs:∀ i p σ H,kvs[i]?=some p->Pv i σ H->g (kV p.1) σ H fun σ2 H2=>tb { D with nx:=Pv (i+1),ct:=Pv (i+1),bk:=D.nx } σ2 H2) (hd:∀ σ H,Pv kvs.length σ H->D.nx σ H) :
 ∃ W:Nat->Nat->St->Hp->Prop,(∃ m,W 0 m σ H)/\∀ i m σ H,W i m σ H ->
  ((Itd o d kvs).stop i H/\D.nx σ H)\/((Itd o d kvs).go i H/\∃ N:St->Hp->Prop,(∀ σ' H',N σ' H'->∃ m',m' < m/\W (i+1) m' σ' H')/\∀ x H',(Itd o d kvs).yld i H x H'->g x σ H' fun σ2 H2=>tb { D with nx:=N,ct:=N,bk:=D.nx } σ2 H2):=by
 refine ⟨fun i m σ H=>m=kvs.length - i/\i<=kvs.length/\Pv i σ H,⟨kvs.length,by simp,QC _,h0⟩,?_⟩
 rintro i m σ H ⟨rfl,hi,p⟩
 have q:=hl i σ H hi p
 by_cases hlt:i < kvs.length
 ·refine .inr ⟨⟨q,hlt⟩,Pv (i+1),fun σ' H' p'=>⟨kvs.length - (i+1),by omega,rfl,hlt,p'⟩,fun x H' y=>?_⟩
  obtain ⟨e,pp,hp,ev⟩:=y
  subst e ev
  exact hs i pp σ _ hp p
 ·have e:i=kvs.length:=by omega
  subst e
  exact .inl ⟨⟨q,Qh _⟩,hd σ H p⟩
def Fz (d:Addr)(o:Obj)(kvs:List (Zn×V))(Δ:Rs)(H:Hp):Prop:=∃ H1,H=upd H1 d (.frz o (.dK kvs))/\Sep ((d,Xu kvs)::Δ) H1
section
variable {d:Addr}{o:Obj}{kvs:List (Zn×V)}{Δ Δ':Rs}{H H':Hp}
theorem Fz.mk (S:Sep ((d,Xu kvs)::Δ) H):Fz d o kvs Δ (upd H d (.frz o (.dK kvs))):=⟨H,rfl,S⟩
theorem Fz.sep (F:Fz d o kvs Δ H):Sep Δ H:=by
 obtain ⟨H1,rfl,S⟩:=F
 exact (S.put d (.frz o (.dK kvs))).tail
theorem Fz.at (F:Fz d o kvs Δ H):H d=some (.frz o (.dK kvs)):=by
 obtain ⟨H1,rfl,S⟩:=F
 exact Zf
theorem Fz.melt (F:Fz d o kvs Δ H):Sep ((d,Xu kvs)::Δ) (upd H d (.dK kvs)):=by
 obtain ⟨H1,rfl,S⟩:=F
 have e:upd (upd H1 d (.frz o (.dK kvs))) d (.dK kvs)=H1:=by
  funext b
  by_cases hb:b=d
  ·rw [hb,Zf];exact (S.get d).symm
  ·rw [Zg hb,Zg hb]
 rw [e];exact S
theorem Fz.go (F:Fz d o kvs Δ H)(hd:H' d=some (.frz o (.dK kvs)))(f:∀ H1 H2,(∀ b,b≠d->H1 b=H b)->(∀ b,b≠d->H2 b=H' b)->H1 d=some (.dK kvs)->H2 d=some (.dK kvs)->Sep ((d,Xu kvs)::Δ) H1->Sep ((d,Xu kvs)::Δ') H2):Fz d o kvs Δ' H':=by
 obtain ⟨H1,rfl,S⟩:=F
 refine ⟨upd H' d (.dK kvs),?_,f H1 _ (fun b hb=>(Zg hb).symm) (fun b hb=>Zg hb) (S.get d) Zf S⟩
 funext b
 by_cases hb:b=d
 ·rw [hb,Zf,hd]
 ·rw [Zg hb,Zg hb]
theorem Fz.mono (F:Fz d o kvs Δ H)(s:Same H H'):Fz d o kvs Δ H' :=
 F.go (s _ _ F.at) fun H1 H2 h1 h2 e1 e2 S=>S.mono fun b u e=>by
  by_cases hb:b=d
  ·rw [hb,e1] at e;rw [hb,e2];exact e
  ·rw [h2 b hb];exact s _ _ (by rw [<- h1 b hb];exact e)
theorem Fz.grow {Pl:Addr}{q:Str}(F:Fz d o kvs ((Pl,WS q)::Δ) H)(g:Grown Pl H H')(L:LamsAt H' Pl q):Fz d o kvs ((Pl,WS q)::Δ) H':=by
 have hne:d≠Pl:=fun z=>by
  obtain ⟨ts,e,_⟩:=F.sep.get Pl
  have:=F.at
  rw [z,e] at this
  cases this
 refine F.go (g _ _ hne F.at) fun H1 H2 h1 h2 e1 e2 S=>Sep.swap (Sep.grow (S.swap) (fun b u hb e=>?_) ?_)
 ·by_cases hbd:b=d
  ·rw [hbd,e1] at e;rw [hbd,e2];exact e
  ·rw [h2 b hbd];exact g _ _ hb (by rw [<- h1 b hbd];exact e)
 ·obtain ⟨ts,e,f⟩:=L
  refine ⟨ts,by rw [h2 Pl hne.symm];exact e,fun p hp=>?_⟩
  have hp2:=f p hp
  rw [h2 p.2 (fun z=>by
   have:=g _ _ hne F.at
   rw [z,this] at hp2
   cases hp2)]
  exact hp2
end
theorem ZfN {RK:Addr->Str->Prop}{Pl:Addr}{qual:Str}{te:(St->XK)->TE}{σ:St}{H:Hp}{Q:VK}(VS:List V)(L:LamsAt H Pl qual)
 (run:∀ (H1:Hp) (Qc:VK) (Ec:XK),Grown Pl H H1->LamsAt H1 Pl qual->(∀ v H',Same H1 H'->VS=[.str "told",v]->Qc v H')->(∀ C dx word what H',Same H1 H'->RK C word->H' dx=some (.xd [("what",what)])->VS=[.str "refused",.str word,what]->Ec (.ref C) (some dx) H')->te (fun _=>Ec) σ H1 Qc)
 (fin:∀ (H1:Hp) (a:Addr) (H2:Hp),Grown Pl H H1->LamsAt H1 Pl qual->Same H1 H2->H2 a=some (.tup VS)->Q (.ref a) H2):ZgV RK Pl qual te σ H Q:=by
 refine ⟨L,fun H1 Qc Ec g L1 hq he=>run H1 Qc Ec g L1 (fun v H' s e=>hq v H' fun a H2 s2 ea=>fin H1 a H2 g L1 (s.trans s2) (by rw [e];exact ea)) fun C dx word what H' s rk ed e=>he C dx word what H' rk ed fun a H2 s2 ea=>fin H1 a H2 g L1 (s.trans s2) (by rw [e];exact ea)⟩
def Zpw (wi:TI):TI:=fun σ H R=>∃ I:It->Hp->Prop,wi σ H I/\∀ J H',I J H'->R J H'
theorem Zmn {X:Cx}{tg l:Expr}{wi:TI}(h:PI X tg l wi):PI X tg l (Zpw wi):=by
 intro pins s σ H R I z
 obtain ⟨J,z,g⟩:=z
 refine Zs (h pins s σ H J I z) fun v s1 h1=>Zs h1 fun itv s2 h2=>?_
 obtain ⟨it,fp,tn,j,H2,e,I2,T,st2,f2,q⟩:=h2
 exact ⟨it,fp,tn,j,H2,e,I2,T,st2,f2,g _ _ q⟩
def Zpt (t:TT):TT:=fun σ H Q=>∃ I:Bool->Hp->Prop,t σ H I/\∀ b H',I b H'->Q b H'
theorem ZnG {X:Cx}{e:Expr}{t:TT}(h:PT X e t):PT X e (Zpt t):=by
 intro pins s σ H Q I z
 obtain ⟨J,z,g⟩:=z
 refine Zs (h pins s σ H J I z) fun b s1 ⟨H',I',q⟩=>⟨H',I',g _ _ q⟩
end L2
namespace K36
open PySem L2
structure Row where
 tk:Nat
 v:V
 o:V
def Row.vs (r:Row):List V:=[nI r.tk,r.v,r.o]
def vL (rs:List Row):V:=match rs.getLast? with | some r=>r.v | none=>.non
abbrev Xw (ops:List (List Row)):List (List (List V)):=ops.map (·.map Row.vs)
theorem Ziq (rs:List Row)(r:Row):vL (rs++[r])=r.v:=by unfold vL;rw [List.getLast?_concat]
theorem Zec {r:Row}(h:Ym r.v/\Ym r.o/\r.tk<=1000):∀ v∈r.vs,Ym v:=fun v hv=>by
 rcases mem_cons.mp hv with rfl | hv
 ·exact ZdB (by omega)
 rcases mem_cons.mp hv with rfl | hv
 ·exact h.1
 ·rw [mem_singleton.mp hv];exact h.2.1
section
variable {P:Qk}{w:Qv}{K:Qa}{mg:Str->Option Qb}{base:Heap}{CH CR CS CT:Addr}
def Zjx:Sp:=fun vs H Q _=>∃(d:Addr)(xs:List Str)(ops:List (List Row))(i:Nat)(x:Str)(rs:List Row),vs=[.ref d,.str x]/\Wi xs (Xw ops) d H/\xs.Nodup/\xs[i]?=some x/\ops[i]?=some rs/\(∀ r∈rs,Ym r.v/\Ym r.o/\r.tk<=1000)/\∀ H',Same H H'->Q (vL rs) H'
abbrev nVo:List Str:=["_law_open_rows","_law_name"]
abbrev ZgT:List Str:=["_law_open_rows","_law_name"]
theorem scVo:Zm nVo ZgT (Zj s_l_value_of):=⟨rfl,rfl,rfl,by decide +kernel,rfl,by decide +kernel,by decide +kernel⟩
theorem Zow {f:Addr}{fd:Qm}{k:Nat}(F:Fun K "_law_value_of" "_law_value_of" s_l_value_of f fd)(T:ZY mg):FnOk P w K mg base ZC (k+1) f fd ZgT Zjx:=by
 refine F.ok scVo (fun vs H Q E h=>?_) (fun cdv A outer s H vs Q E hr h=>?_)
 ·obtain ⟨d,xs,ops,i,x,rs,rfl,_⟩:=h;rfl
 obtain ⟨d,xs,ops,i,x,rs,rfl,R,nd,hx,ho,hv,q⟩:=h
 have S0:Sep [(d,Wi xs (Xw ops))] H:=⟨H,fun _ _ e=>e,R,trivial⟩
 obtain ⟨a,kvs,Γ,hval,S,_⟩:=S0.dtl nd hx (tss:=rs.map Row.vs) (by rw [getElem?_map,ho];rfl)
 obtain ⟨as,el,hs⟩:=S.get a
 have hnv:∀ ts∈rs.map Row.vs,∀ v∈ts,Ym v:=fun ts hts=>by
  obtain ⟨r,hr,rfl⟩:=mem_map.mp hts
  exact Zec (hv r hr)
 have hg:DGet H d (.str x) (some (.ref a)):=by have z:=DGet.k (k:=Qu x) (S.get d);rw [hval] at z;exact z
 refine' ⟨?t,?h,?r⟩
 case h =>
  conv=>arg 2;whnf
  with_reducible refine' (Zh ?h1)
  case h1=>exact Zq (Yo (ZL (Zan (K:=K) rfl hr.units) (Xm (YL hr) (pv 0) (pv 1) (fun _ _=>rfl)) (ZX Za) (ZJ _)) (Zz YF (Zz ZB (Xm (YL hr) (pv 0) (pv 1) (fun _ _=>rfl)) (Zdk Zba Zi) (fun _ _=>rfl)) Zi (fun _ _=>rfl)) XX)
 try dsimp only [ZQ,Cx.nox]
 refine ⟨_,rfl,_,rfl,d,_,rfl,hg,(by show 0<=Qi;decide),fun e0 he0=>?_⟩
 have w1:=Zk he0 (.lst [])
 obtain ⟨z1,z2⟩:=Zak hnv
 refine ⟨a,e0,_,_,rfl,rfl,w1 _ _ el,Vq (hs.up w1) hnv,z1,z2,Zf,_,rfl,?_⟩
 have q1:=q _ w1
 rcases Ju rs with rfl | ⟨ys,r,rfl⟩
 ·have:as=[]:=length_eq_zero_iff.mp hs.1
  subst this
  exact ZP q1
 ·rw [Jv] at *
  rw [Ziq] at q1
  rw [map_append] at hs
  obtain ⟨bs,b,rfl,_,eb⟩:=TLs.init hs
  refine ifT (by rw [map_append];simp) ?_
  have hg1:DGet (upd H e0 (.lst [])) d (.str x) (some (.ref a)):=by have z:=DGet.k (k:=Qu x) ((S.mono w1).get d);rw [hval] at z;exact z
  exact ⟨_,rfl,_,rfl,d,_,rfl,hg1,_,rfl,a,_,_,_,rfl,rfl,SqL.of (w1 _ _ el),(by rw [map_append];exact ZdJ _ _),b,_,_,_,rfl,rfl,SqT.of (w1 _ _ eb),ZE (j:=1) rfl,q1⟩
end
abbrev qS:Str:=(("_law_state_right":Str)++".<locals>.")++"<lambda>"
theorem Zcd (v:V):(!decide (v=v))=false:=by simp
def Xn (f:Fnd)(b:Bool):List V:=[.int (f.wd:Int),.str f.nm,f.ol,.bl b]
def facs (fs:List Fnd)(us:List Bool):List (List V):=List.zipWith Xn fs us
theorem Zaf {fs:List Fnd}{us:List Bool}{i:Nat}{f:Fnd}{b:Bool}(h1:fs[i]?=some f)(h2:us[i]?=some b):(facs fs us)[i]?=some (Xn f b):=by
 unfold facs;rw [Py,h1,h2]
theorem Vj {fs:List Fnd}{us:List Bool}(h:fs.length=us.length):(facs fs us).length=fs.length:=by unfold facs;rw [Of];omega
structure WI (xs:List Str)(qs:List (Str×V))(s:Hs)(p:Nat)(G:Str->Option V)(ops:List (List Row)):Prop where
 I:HI xs s
 ins:s.ins=[0]
 sp:s.spots=[p]
 env:(envs s.pls)[p]?=some G
 df:s.dfs=Yf qs
 qn:qs.map (·.1)=xs
 nd:xs.Nodup
 nm:∀ x∈xs,Um x
 nv:∀ q∈qs,Ym q.2
 fu:s.fds.length=s.us.length
 fl:s.fds.length<=900
 ol:ops.length=xs.length
 val:∀ (i:Nat) (x:Str) (rs:List Row),xs[i]?=some x->ops[i]?=some rs->(G x).getD .non=vL rs
 rv:∀ (i:Nat) (rs:List Row),ops[i]?=some rs->∀ r∈rs,IsVal r.v/\Ym r.o
 tok:∀ (i:Nat) (x:Str) (rs:List Row),xs[i]?=some x->ops[i]?=some rs->(Wc s.fds s.us 0).filter (Wp s.fds x)=rs.map (·.tk)
 fd:∀ (i:Nat) (x:Str) (rs:List Row),xs[i]?=some x->ops[i]?=some rs->∀ r∈rs,s.fds[r.tk]?=some ⟨0,x,r.o⟩
 ch:∀ (i:Nat) (rs:List Row),ops[i]?=some rs->∀ ys r zs,rs=ys++r::zs->r.o=vL ys
 fv:∀ f∈s.fds,f.wd=0/\f.nm∈xs/\Ym f.ol
theorem Zap {x:Str}(h:Um x):Ym (.str x):=by
 obtain ⟨u1,u2,u3⟩:=h
 refine .inr ⟨by omega,all_eq_true.mpr fun c hc=>?_⟩
 have:=all_eq_true.mp u3 c hc
 unfold ZbV at this;unfold VH
 simp only [QL,decide_eq_true_eq] at this ⊢
 omega
theorem WI.rows {xs:List Str}{qs:List (Str×V)}{s:Hs}{p:Nat}{G:Str->Option V}{ops:List (List Row)}(W:WI xs qs s p G ops){i:Nat}{x:Str}{rs:List Row}(hx:xs[i]?=some x)(ho:ops[i]?=some rs):∀ r∈rs,Ym r.v/\Ym r.o/\r.tk<=1000:=fun r hr=>by
 obtain ⟨h1,h2⟩:=W.rv i rs ho r hr
 have h3:=(Qf.mp (W.fd i x rs hx ho r hr)).1
 have:=W.fl
 exact ⟨.inr h1,h2,by omega⟩
theorem WI.facs {xs:List Str}{qs:List (Str×V)}{s:Hs}{p:Nat}{G:Str->Option V}{ops:List (List Row)}(W:WI xs qs s p G ops):∀ ts∈facs s.fds s.us,ts.length<=5/\∀ v∈ts,NbV v:=fun ts hts=>by
 obtain ⟨i,hi⟩:=GR.mp hts
 have hil:=(Qf.mp hi).1
 rw [Vj W.fu] at hil
 obtain ⟨f,hf⟩:∃ f,s.fds[i]?=some f:=⟨_,getElem?_eq_getElem hil⟩
 obtain ⟨b,hb⟩:∃ b,s.us[i]?=some b:=⟨_,getElem?_eq_getElem (by rw [<- W.fu];exact hil)⟩
 rw [Zaf hf hb] at hi
 cases hi
 obtain ⟨h1,h2,h3⟩:=W.fv f (mem_of_getElem? hf)
 refine ⟨by show 4<=5;decide,fun v hv=>?_⟩
 rcases mem_cons.mp hv with rfl | hv
 ·rw [h1];exact .inr (ZdB (n:=0) (by decide))
 rcases mem_cons.mp hv with rfl | hv
 ·exact .inr (Zap (W.nm _ h2))
 rcases mem_cons.mp hv with rfl | hv
 ·exact .inr h3
 ·rw [mem_singleton.mp hv];exact .inl ⟨b,rfl⟩
def lkV (v:V)(x:Str):List V:=if v=.non then [.str "refused",.str "missing",.str x] else [.str "told",v]
theorem Zmh {v:V}{x:Str}(hv:Ym v)(hx:Um x):(∀ u∈lkV v x,Ym u)/\(lkV v x).length<=1000:=by
 unfold lkV
 split
 ·refine ⟨fun u hu=>?_,by show 3<=1000;decide⟩
  rcases mem_cons.mp hu with rfl | hu
  ·exact VF (by decide +kernel)
  rcases mem_cons.mp hu with rfl | hu
  ·exact VF (by decide +kernel)
  ·rw [mem_singleton.mp hu];exact Zap hx
 ·refine ⟨fun u hu=>?_,by show 2<=1000;decide⟩
  rcases mem_cons.mp hu with rfl | hu
  ·exact VF (by decide +kernel)
  ·rw [mem_singleton.mp hu];exact hv
section
variable {P:Qk}{w:Qv}{K:Qa}{mg:Str->Option Qb}{base:Heap}{CH CR CS CT CRo CN CM Pl:Addr}{cs:List Addr}
abbrev stL (K:Qa)(CH CR CS CT:Addr)(h dd dr fl:Addr)(s:Hs)(qs:List (Str×V))(xs:List Str)(ops:List (List Row))(Δ:Rs):Rs:=(h,Xf K CH CR CS CT s)::(dd,Xu (Yf qs))::(dr,Wi xs (Xw ops))::(fl,TL (facs s.fds s.us))::Δ
def spSR (K:Qa)(CH CR CS CT Pl:Addr):Sp:=fun vs H Q _=>∃(h dd dr fl:Addr)(xs:List Str)(qs:List (Str×V))(s:Hs)(p:Nat)(G:Str->Option V)(ops:List (List Row))(Δ:Rs),vs=[.ref h,.ref dd,.ref dr,.ref fl]/\Sep ((Pl,WS qS)::stL K CH CR CS CT h dd dr fl s qs xs ops Δ) H/\WI xs qs s p G ops/\∀ H',Sep ((Pl,WS qS)::stL K CH CR CS CT h dd dr fl s qs xs ops Δ) H'->Q (.bl true) H'
abbrev nSR:List Str:=["_law_hall","_law_defaults","_law_open_rows","_law_facts","_law_name","_law_own","_law_value_here","_law_told_here"]
abbrev Zjb:List Str:=["_law_hall","_law_defaults","_law_open_rows","_law_facts"]
theorem scSR:Zm nSR Zjb (Zj s_l_state_right):=⟨rfl,rfl,rfl,by decide +kernel,rfl,by decide +kernel,by decide +kernel⟩
theorem ZoT {f c:Addr}{fd:Qm}(F:FunC K "_law_state_right" "_law_state_right" s_l_state_right f fd c Pl)(hBm:WE base mg)(T:ZY mg)(TH:Xg K CH)(DVo:Def P w K mg base 17 "_law_value_of" ZgT Zjx)(DH_look:DefMX P w K mg base 14 CH "look" Zdg (Zgm K CH CR CS CT CN CM))(DH_look_or:DefM P w K mg base 17 CH "look_or" ZfL (Zka K CH CR CS CT))(DH_token:DefM P w K mg base 17 CH "token" ZfR (Zks K CH CR CS CT))(rN:RK K CRo cs CN "setting")(rM:RK K CRo cs CM "missing")(DTo:Def P w K mg base 17 "_law_told" ["_law_ask"] (ZbM P w K mg base 15 (RK K CRo cs))):FnOk P w K mg base ZC 18 f fd Zjb (spSR K CH CR CS CT Pl):=by
 refine F.ok scSR (fun vs H Q E h=>?_) (fun A outer s0 H vs Q E hr h=>?_)
 ·obtain ⟨h,dd,dr,fl,xs,qs,s,p,G,ops,Δ,rfl,_⟩:=h;rfl
 obtain ⟨h,dd,dr,fl,xs,qs,s,p,G,ops,Δ,rfl,S,W,q⟩:=h
 have hr1:=hr.mono (show 1<=17 by decide)
 refine' ⟨?t,?h,?r⟩
 case h =>
  conv=>arg 2;whnf
  with_reducible refine' (Ze (ZlT (WJ ?h1 ?h2 ?h3 ?h4 (XC ?h5 (XC ?h6 (XC ?h7 (Zh (ZZ ?h8 (Zh ?h9) ZM))))) ?h10)) (Zh ?h11))
  case h1=>exact Gi
  case h2=>exact rfl
  case h3=>exact Zlb (pv 1)
  case h4=>exact ZA (i:=4) scSR.nd rfl (SX rfl)
  case h5=>exact Zv (i:=5) scSR.nd rfl (Qz rfl) (ZI DVo hr (Zb (pv 2) (Zb (pv 4) Za)))
  case h6=>exact Zv (i:=6) scSR.nd rfl (Qz rfl) (Yo (Xa (Wh (pv 5))) (Xm (YL hr) (pv 1) (pv 4) (fun _ _=>rfl)) (pv 5))
  case h7=>exact Zv (i:=7) scSR.nd rfl (Qz rfl) (Yo (Xa (Wh (pv 6))) (Yi (Zb ZS (Zb ZS (Zb (pv 4) Za)))) (Yi (Zb ZS (Zb (pv 6) Za))))
  case h8=>exact PW.pt (ZgC (ZL UC (Zr (YU hr.gd hr.units) rfl T.repr (by decide +kernel) (Zb (Zlf (c:=c) (Pl:=Pl) DTo hr (LamOk.of s_l_state_right rfl rfl (by decide +kernel)) rfl F.hd hBm (fun _ _ _ _ _ _ _ _ _ hrL W=>(ZfM W DH_look TH.cl hrL (pv 0) (Zb (pv 4) Za)))) Za)) (Zr (YU hr.gd hr.units) rfl T.repr (by decide +kernel) (Zb (pv 7) Za)) (ZJ _)) (Zey (ZL UC (Zr (YU hr.gd hr.units) rfl T.repr (by decide +kernel) (Zb (ZH DH_look_or TH.cl hr (pv 0) (Zb (pv 4) (Zb XX Za))) Za)) (Zr (YU hr.gd hr.units) rfl T.repr (by decide +kernel) (Zb (pv 5) Za)) (ZJ _))))
  case h9=>exact Zq YV
  case h10=>exact fun _=>rfl
  case h11=>exact Zq (Wv Yx (Zr (YU hr.gd hr.units) rfl T.repr (by decide +kernel) (Zb (Zah (CompOk.of nSR s_l_state_right rfl rfl (by decide +kernel)) rfl (Xx rfl T.range (Zb (Zr ZO rfl T.len QM (Zb (pv 3) Za)) Za))  (fun _ _ _ _ _=>ZH DH_token TH.cl hr (pv 0) (Zb (pv 8) Za))) Za)) (Zr (YU hr.gd hr.units) rfl T.repr (by decide +kernel) (Zb (pv 3) Za)) (ZJ _))
 try dsimp only [ZQ,Cx.nox]
 refine zs2 ?_
 intro zD zS zN1
 refine ⟨_,rfl,dd,_,rfl,S.get dd,fun o nf=>?_⟩
 have F0:Fz dd o (Yf qs) ((Pl,WS qS)::(h,Xf K CH CR CS CT s)::(dr,Wi xs (Xw ops))::(fl,TL (facs s.fds s.us))::Δ) (upd H dd (.frz o (.dK (Yf qs)))):=.mk (S.pull dd)
 refine ZjP (fun i σ H'=>∃ y4 y5 y6 y7,σ=[some (.ref h),some (.ref dd),some (.ref dr),some (.ref fl),y4,y5,y6,y7]/\Fz dd o (Yf qs) ((Pl,WS qS)::(h,Xf K CH CR CS CT s)::(dr,Wi xs (Xw ops))::(fl,TL (facs s.fds s.us))::Δ) H') ⟨_,_,_,_,rfl,F0⟩ (fun i σ H' _ ⟨_,_,_,_,_,F'⟩=>F'.at) ?_ ?_
 ·rintro i pp σ H1 hpp ⟨y4,y5,y6,y7,rfl,F1⟩
  obtain ⟨⟨x,d⟩,hq,rfl⟩:∃ z,qs[i]?=some z/\pp=(Qu z.1,z.2):=by
   unfold Yf at hpp
   rw [getElem?_map] at hpp
   obtain ⟨z,e1,e2⟩:=QR.mp hpp
   exact ⟨z,e1,e2.symm⟩
  have hx:xs[i]?=some x:=by rw [<- W.qn,getElem?_map,hq];rfl
  have hxm:=mem_of_getElem? hx
  obtain ⟨rs,ho⟩:∃ rs,ops[i]?=some rs:=⟨_,getElem?_eq_getElem (by rw [W.ol];exact (Qf.mp hx).1)⟩
  have hd:ZD (Yf qs) (Qu x)=some d:=Ue (by rw [W.qn];exact W.nd) (mem_of_getElem? hq)
  have hdn:Ym d:=W.nv _ (mem_of_getElem? hq)
  have hGv:=(W.I.R.tr p G _ W.env (WK (W.I.sp p (by rw [W.sp];exact mem_cons_self)))).2.2
  have hval:=W.val i x rs hx ho
  have hown:vL rs=Uw (G x) .non:=hval.symm
  have hon:Ym (vL rs):=by
   rw [<- hval]
   cases e:G x with
   | none=>exact .inl rfl
   | some u=>exact .inr (hGv x u e)
  refine ⟨fun σ' H'=>σ'=[some (.ref h),some (.ref dd),some (.ref dr),some (.ref fl),some (.str x),some (vL rs),y6,y7]/\Fz dd o (Yf qs) ((Pl,WS qS)::(h,Xf K CH CR CS CT s)::(dr,Wi xs (Xw ops))::(fl,TL (facs s.fds s.us))::Δ) H',?_,?_⟩
  ·exact ⟨_,rfl,_,rfl,dr,xs,ops,i,x,rs,rfl,F1.sep.get dr,W.nd,hx,ho,W.rows hx ho,fun H2 s2=>⟨rfl,F1.mono s2⟩⟩
  clear F1
  rintro σ1 H1 ⟨rfl,F1⟩
  refine ⟨fun σ' H'=>σ'=[some (.ref h),some (.ref dd),some (.ref dr),some (.ref fl),some (.str x),some (vL rs),some (Uw (G x) d),y7]/\Fz dd o (Yf qs) ((Pl,WS qS)::(h,Xf K CH CR CS CT s)::(dr,Wi xs (Xw ops))::(fl,TL (facs s.fds s.us))::Δ) H',?_,?_⟩
  ·cases e:G x with
   | none =>
    rw [e] at hown
    refine ⟨_,rfl,_,rfl,ifT (decide_eq_true hown) ?_⟩
    exact ⟨_,rfl,_,rfl,dd,d,rfl,.inl ⟨_,Qu x,.inr ⟨_,F1.at⟩,rfl,hd.symm⟩,rfl,F1⟩
   | some u =>
    rw [e] at hown
    have hu:=hGv x u e
    have hne:¬ vL rs=.non:=fun z=>by rw [hown] at z;have z:u=.non:=z;rw [z] at hu;exact hu
    refine ⟨_,rfl,_,rfl,ifF (decide_eq_false hne) ?_⟩
    exact ⟨_,rfl,by rw [hown];rfl,F1⟩
  clear F1
  rintro σ1 H1 ⟨rfl,F1⟩
  have hlv:Ym (Uw (G x) d):=by
   cases e:G x with
   | none=>exact hdn
   | some u=>exact .inr (hGv x u e)
  obtain ⟨k1,k2⟩:=Zmh hlv (W.nm x hxm)
  refine ⟨fun σ' H'=>∃ t2,σ'=[some (.ref h),some (.ref dd),some (.ref dr),some (.ref fl),some (.str x),some (vL rs),some (Uw (G x) d),some (.ref t2)]/\H' t2=some (.tup (lkV (Uw (G x) d) x))/\Fz dd o (Yf qs) ((Pl,WS qS)::(h,Xf K CH CR CS CT s)::(dr,Wi xs (Xw ops))::(fl,TL (facs s.fds s.us))::Δ) H',?_,?_⟩
  ·unfold lkV
   refine ⟨_,rfl,_,rfl,XJ (fun c=>?_) (fun c=>?_)⟩
   ·rw [if_pos (of_decide_eq_true c)]
    exact ⟨_,rfl,(by show 3<=Qi;decide),fun t2 ht2=>⟨t2,rfl,Zf,F1.mono (Zk ht2 _)⟩⟩
   ·rw [if_neg (fun z=>c (decide_eq_true z))]
    exact ⟨_,rfl,(by show 2<=Qi;decide),fun t2 ht2=>⟨t2,rfl,Zf,F1.mono (Zk ht2 _)⟩⟩
  clear F1
  rintro σ1 H1 ⟨t2,rfl,e2,F1⟩
  have n2:t2≠Pl:=fun z=>by obtain ⟨ts,z1,_⟩:=F1.sep.get Pl;rw [<- z,e2] at z1;cases z1
  dsimp only [tIfS,tOr,ZgI,tOp,tCB,XZ]
  refine ZfN (lkV (Uw (G x) d) x) (F1.sep.get Pl) (fun H2 Qc Ec gr L1 hq he=>?_) (fun H2 t1 H3 gr L1 s3 e3=>?_)
  ·have F2:=F1.grow gr L1
   have S2:=F2.sep
   obtain ⟨dd',r,sp,il,tk,Sh⟩:=S2.get h
   obtain ⟨dx4,ob4⟩:=Sh.get h
   refine ⟨_,rfl,h,dx4,_,rfl,ob4,Yg (by decide +kernel),_,rfl,xs,h,s,0,p,x,G,rfl,S2.get h,W.I,by rw [W.ins];rfl,by rw [W.sp];rfl,W.env,hxm,fun hz=>?_,fun d' hd'=>⟨fun hz dx H3 s3 ed=>?_,fun hz H3 s3=>?_⟩⟩
   ·rw [W.df,hd] at hz;cases hz
   ·rw [W.df,hd] at hd';cases hd'
    exact he CM dx "missing" _ H3 s3 rM ed (by unfold lkV;rw [if_pos hz])
   ·rw [W.df,hd] at hd';cases hd'
    exact hq _ H3 s3 (by unfold lkV;rw [if_neg hz])
  have F3:=(F1.grow gr L1).mono s3
  have e3b:=s3 _ _ (gr _ _ n2 e2)
  obtain ⟨u1,u2,u3,u4⟩:=UD e3 k1 k2
  obtain ⟨v1,v2,v3,v4⟩:=UD e3b k1 k2
  refine ⟨_,_,rfl,u1,u2,u3,u4,_,rfl,_,_,rfl,v1,v2,v3,v4,rfl,_,rfl,?_⟩
  rw [Zcd]
  refine ZP ?_
  have S3:=F3.sep
  obtain ⟨dd',r,sp,il,tk,Sh⟩:=S3.get h
  obtain ⟨dx4,ob4⟩:=Sh.get h
  refine ⟨_,rfl,h,dx4,_,rfl,ob4,Yg (by decide +kernel),_,rfl,xs,h,s,0,p,x,.non,G,rfl,S3.get h,W.I,by rw [W.ins];rfl,by rw [W.sp];rfl,W.env,hxm,by rw [W.df,hd];rfl,fun H4 s4=>?_⟩
  rw [<- hown]
  obtain ⟨u1,u2,u3,u4⟩:=ZkW (H:=H4) hon
  refine ⟨_,_,rfl,u1,u2,u3,u4,_,rfl,_,_,rfl,u1,u2,u3,u4,rfl,_,rfl,?_⟩
  rw [Zcd]
  exact ZP ⟨_,_,_,_,rfl,F3.mono s4⟩
 ·rintro σ H1 ⟨y4,y5,y6,y7,rfl,F1⟩
  refine ⟨dd,o,Yf qs,F1.at,nf,?_⟩
  have S1:=F1.melt
  generalize upd H1 dd (.dK (Yf qs))=H2 at S1 ⊢
  clear F1
  have S2:Sep ((Pl,WS qS)::stL K CH CR CS CT h dd dr fl s qs xs ops Δ) H2:=(((S1.pull dr).pull dd).pull h).pull Pl
  obtain ⟨as,el,hs⟩:=S2.get fl
  have hfl:=Vj W.fu
  refine ⟨_,rfl,fl,_,rfl,.inl (SqL.of el),?_⟩
  refine ⟨(as.length:Int),by rw [length_map],by omega,by have:=hs.1;have:=W.fl;omega,fun D hD=>?_⟩
  have hal:as.length=s.fds.length:=by rw [hs.1,hfl]
  rw [show ((as.length:Int)).toNat=s.fds.length by omega]
  have hfl9:=W.fl
  refine ZbO (Xl (show _<=1000 by omega)) (fun i ys H'=>Same H2 H'/\H' D=some (.lst ys)/\i<=s.fds.length/\∃ bs:List Addr,ys=bs.map V.ref/\TLs H' bs ((facs s.fds s.us).take i)) ⟨Zk hD _,Zf,QC _,[],rfl,rfl,fun i _ _ z _=>by cases z⟩ ?_ ?_ ?_
  ·rintro i ys H' ⟨_,_,hi,bs,rfl,hb⟩
   rw [length_map,hb.1,length_take,hfl];omega
  ·rintro i ys H' hi ⟨s1,eD,_,bs,rfl,hb⟩
   obtain ⟨f,hf⟩:∃ f,s.fds[i]?=some f:=⟨_,getElem?_eq_getElem hi⟩
   obtain ⟨b,hub⟩:∃ b,s.us[i]?=some b:=⟨_,getElem?_eq_getElem (by rw [<- W.fu];exact hi)⟩
   have S3:=S2.mono s1
   obtain ⟨dd',r,sp,il,tk,Sh⟩:=S3.get h
   obtain ⟨dx4,ob4⟩:=Sh.get h
   refine ⟨_,rfl,h,dx4,_,rfl,ob4,Yg (by decide +kernel),_,rfl,h,s,i,f,b,by rw [Int.zero_add];rfl,S3.get h,hf,hub,fun a H4 s4 ha ea=>⟨s4 _ _ eD,?_,Zf,hi,bs++[a],by rw [map_append];rfl,?_⟩⟩
   ·intro b o e
    rw [Zg (fun z=>by rw [z,hD] at e;cases e)]
    exact s4 _ _ (s1 _ _ e)
   ·have h1:=(hb.up s4).app ea
    rw [take_add_one,Zaf hf hub]
    refine ⟨h1.1,fun j c ts q1 q2=>?_⟩
    have h2:=h1.2 j c ts q1 q2
    rw [Zg (fun z=>by rw [z,s4 _ _ eD] at h2;cases h2)]
    exact h2
  ·rintro ys H3 ⟨s1,eD,_,bs,rfl,hb⟩
   rw [Po (by rw [hfl];exact Qh _)] at hb
   obtain ⟨u1,u2,u3,u4⟩:=Zek eD hb W.facs (by rw [hfl];omega)
   have S3:=S2.mono s1
   obtain ⟨as3,el3,hs3⟩:=S3.get fl
   obtain ⟨v1,v2,v3,v4⟩:=Zek el3 hs3 W.facs (by rw [hfl];omega)
   refine ⟨_,_,rfl,u1,u2,u3,u4,_,rfl,_,_,rfl,v1,v2,v3,v4,rfl,?_⟩
   rw [decide_eq_true (show V.str _=V.str _ from rfl)]
   exact q H3 S3
end
section
variable {xs:List Str}{qs:List (Str×V)}{s:Hs}{p:Nat}{G:Str->Option V}{ops:List (List Row)}
theorem Zdy {xs:List Str}(nd:xs.Nodup){i j:Nat}{x y:Str}(h1:xs[i]?=some x)(h2:xs[j]?=some y)(h:i≠j):y≠x:=fun e=>by
 subst e
 obtain ⟨a1,a2⟩:=Qf.mp h1
 obtain ⟨b1,b2⟩:=Qf.mp h2
 have pw:=JN.mp nd
 rcases Nat.lt_or_gt_of_ne h with z | z
 ·exact pw i j a1 b1 z (a2.trans b2.symm)
 ·exact pw j i b1 a1 z (b2.trans a2.symm)
theorem Zhy {pls:List Yn}{G:Str->Option V}{p t' c:Nat}{st:Stp}(h:(envs pls)[p]?=some G):(envs (pls++[⟨p,st,t',c⟩]))[pls.length+1]?=some (st.ap G):=by
 rw [ZaQ,getElem?_append_right (by rw [Uj];exact Qh _),Uj,Gc,getD_eq_getElem?_getD,h]
 rfl
theorem XR {α:Type}{ops:List α}{i j:Nat}{a:α}(h:i≠j):(ops.set i a)[j]?=ops[j]?:=by rw [getElem?_set,if_neg h]
theorem XM {α:Type}{ops:List α}{i:Nat}{a b:α}(h:ops[i]?=some b):(ops.set i a)[i]?=some a:=by
 rw [getElem?_set,if_pos rfl,if_pos (Qf.mp h).1]
theorem Zma (fs:List Fnd)(us:List Bool)(n k:Nat):Wc fs (us.set k false) n=(Wc fs us n).filter (fun j=>decide (j≠k)):=by
 unfold Wc
 rw [TM]
 refine Se fun j hj=>?_
 unfold Wq
 rw [getD_eq_getElem?_getD,getD_eq_getElem?_getD,getElem?_set]
 by_cases h:k=j
 ·subst h
  rw [if_pos rfl]
  split<;>simp
 ·rw [if_neg h,decide_eq_true (show j≠k from fun z=>h z.symm),Bool.true_and]
theorem Zlq (fs:List Fnd)(us:List Bool)(n:Nat)(f:Fnd)(hl:fs.length=us.length)(hw:f.wd=n):Wc (fs++[f]) (us++[true]) n=Wc fs us n++[fs.length]:=by
 unfold Wc
 rw [length_append,length_singleton,Tb,filter_append]
 congr 1
 ·refine Se fun j hj=>?_
  have hj:=mem_range.mp hj
  unfold Wq
  rw [getD_eq_getElem?_getD,getD_eq_getElem?_getD,getElem?_append_left hj,getElem?_append_left (by omega)]
 ·rw [Jj]
  ·rfl
  ·unfold Wq
   rw [getD_eq_getElem?_getD,hl,getElem?_append_right (Qh _),Gc,<- hl,getElem?_append_right (Qh _),Gc]
   show (true&&decide (f.wd=n))=true
   rw [decide_eq_true hw];rfl
theorem WI.st (W:WI xs qs s p G ops){i:Nat}{x:Str}{rs:List Row}{v:V}(hx:xs[i]?=some x)(ho:ops[i]?=some rs)(hv:IsVal v)(h9:s.fds.length < 900){t' c:Nat}{nds:List Nd}{tabs:List (Zn×V)}(I':HI xs (UE s 0 p (.set x v) t' c nds tabs)) :
 WI xs qs { UE s 0 p (.set x v) t' c nds tabs with fds:=s.fds++[⟨0,x,(G x).getD .non⟩],us:=s.us++[true] } (s.pls.length+1) ((Stp.set x v).ap G) (ops.set i (rs++[⟨s.fds.length,v,vL rs⟩])) where
 I:=⟨I'.N,I'.R,I'.sp⟩
 ins:=W.ins
 sp:=by show s.spots.set 0 _=_;rw [W.sp];rfl
 env:=Zhy W.env
 df:=W.df
 qn:=W.qn
 nd:=W.nd
 nm:=W.nm
 nv:=W.nv
 fu:=by show (_++[_]).length=(_++[_]).length;rw [length_append,length_append,W.fu];rfl
 fl:=by show (_++[_]).length<=_;rw [length_append,length_singleton];omega
 ol:=by rw [length_set];exact W.ol
 val := fun j y rs' hy hr=>by
  show (if y=x then some v else G y).getD .non=vL rs'
  by_cases h:i=j
  ·subst h
   rw [hx] at hy;cases hy
   rw [XM ho] at hr;cases hr
   rw [if_pos rfl,Ziq];rfl
  ·rw [if_neg (Zdy W.nd hx hy h)]
   rw [XR h] at hr
   exact W.val j y rs' hy hr
 rv := fun j rs' hr r hm=>by
  by_cases h:i=j
  ·subst h
   rw [XM ho] at hr;cases hr
   rcases mem_append.mp hm with hm | hm
   ·exact W.rv i rs ho r hm
   ·rw [mem_singleton.mp hm]
    refine ⟨hv,?_⟩
    show Ym (vL rs)
    unfold vL
    cases e:rs.getLast? with
    | none=>exact .inl rfl
    | some z=>exact .inr (W.rv i rs ho z (List.mem_of_getLast? e)).1
  ·rw [XR h] at hr
   exact W.rv j rs' hr r hm
 tok := fun j y rs' hy hr=>by
  show (Wc (s.fds++[_]) (s.us++[true]) 0).filter (Wp (s.fds++[_]) y)=_
  rw [Zlq _ _ _ _ W.fu rfl,filter_append]
  have h1:(Wc s.fds s.us 0).filter (Wp (s.fds++[⟨0,x,(G x).getD .non⟩]) y)=(Wc s.fds s.us 0).filter (Wp s.fds y):=Se fun k hk=>by
   have hk:=mem_range.mp (mem_filter.mp hk).1
   unfold Wp
   rw [getElem?_append_left hk]
  have h2:Wp (s.fds++[⟨0,x,(G x).getD .non⟩]) y s.fds.length=decide (x=y):=by
   unfold Wp
   rw [getElem?_append_right (Qh _),Gc];rfl
  rw [h1]
  by_cases h:i=j
  ·subst h
   rw [hx] at hy;cases hy
   rw [XM ho] at hr;cases hr
   rw [W.tok i x rs hx ho,Jj (by rw [h2];exact decide_eq_true rfl),map_append];rfl
  ·rw [XR h] at hr
   rw [W.tok j y rs' hy hr,Pb (by rw [h2];simpa using (Zdy W.nd hx hy h).symm),Rk,append_nil]
 fd := fun j y rs' hy hr r hm=>by
  show (s.fds++[_])[r.tk]?=_
  have old:∀ {r:Row} {y:Str},s.fds[r.tk]?=some ⟨0,y,r.o⟩->(s.fds++[⟨0,x,(G x).getD .non⟩])[r.tk]?=some ⟨0,y,r.o⟩:=fun e=>by
   rw [getElem?_append_left (Qf.mp e).1];exact e
  by_cases h:i=j
  ·subst h
   rw [hx] at hy;cases hy
   rw [XM ho] at hr;cases hr
   rcases mem_append.mp hm with hm | hm
   ·exact old (W.fd i x rs hx ho r hm)
   ·rw [mem_singleton.mp hm]
    show (s.fds++[_])[s.fds.length]?=_
    rw [getElem?_append_right (Qh _),Gc,W.val i x rs hx ho];rfl
  ·rw [XR h] at hr
   exact old (W.fd j y rs' hy hr r hm)
 ch := fun j rs' hr ys r zs e=>by
  by_cases h:i=j
  ·subst h
   rw [XM ho] at hr;cases hr
   rcases Ju zs with rfl | ⟨zs',z,rfl⟩
   ·obtain ⟨e1,e2⟩:=NF e rfl
    cases e2;rw [<- e1]
   ·rw [Jv,<- Ss,<- append_assoc] at e
    obtain ⟨e1,_⟩:=NF e rfl
    exact W.ch i rs ho ys r zs' e1
  ·rw [XR h] at hr
   exact W.ch j rs' hr ys r zs e
 fv:=fun f hf=>by
  rcases mem_append.mp hf with hf | hf
  ·exact W.fv f hf
  ·rw [mem_singleton.mp hf]
   refine ⟨rfl,mem_of_getElem? hx,?_⟩
   show Ym ((G x).getD .non)
   cases e:G x with
   | none=>exact .inl rfl
   | some u=>exact .inr ((W.I.R.tr p G _ W.env (WK (W.I.sp p (by rw [W.sp];exact mem_cons_self)))).2.2 x u e)
theorem WI.bk (W:WI xs qs s p G ops){i:Nat}{x:Str}{ys:List Row}{r:Row}(hx:xs[i]?=some x)(ho:ops[i]?=some (ys++[r])){t' c:Nat}{nds:List Nd}{tabs:List (Zn×V)}(I':HI xs (UE s 0 p (Xy x r.o) t' c nds tabs)) :
 WI xs qs { UE s 0 p (Xy x r.o) t' c nds tabs with us:=s.us.set r.tk false } (s.pls.length+1) ((Xy x r.o).ap G) (ops.set i ys) where
 I:=⟨I'.N,I'.R,I'.sp⟩
 ins:=W.ins
 sp:=by show s.spots.set 0 _=_;rw [W.sp];rfl
 env:=Zhy W.env
 df:=W.df
 qn:=W.qn
 nd:=W.nd
 nm:=W.nm
 nv:=W.nv
 fu:=by show _=(s.us.set _ _).length;rw [length_set];exact W.fu
 fl:=W.fl
 ol:=by rw [length_set];exact W.ol
 val := fun j y rs' hy hr=>by
  by_cases h:i=j
  ·subst h
   rw [hx] at hy;cases hy
   rw [XM ho] at hr;cases hr
   have e:=W.ch i _ ho ys r [] rfl
   rw [<- e]
   unfold Xy
   split
   ·rename_i z
    show (if x=x then none else G x).getD .non=_
    rw [if_pos rfl,z];rfl
   ·show (if x=x then some r.o else G x).getD .non=_
    rw [if_pos rfl];rfl
  ·have hne:=Zdy W.nd hx hy h
   rw [XR h] at hr
   rw [<- W.val j y rs' hy hr]
   unfold Xy
   split
   ·show (if y=x then none else G y).getD .non=_
    rw [if_neg hne]
   ·show (if y=x then some r.o else G y).getD .non=_
    rw [if_neg hne]
 rv:=fun j rs' hr z hm=>by
  by_cases h:i=j
  ·subst h
   rw [XM ho] at hr;cases hr
   exact W.rv i _ ho z (GV _ hm)
  ·rw [XR h] at hr
   exact W.rv j rs' hr z hm
 tok := fun j y rs' hy hr=>by
  show (Wc s.fds (s.us.set r.tk false) 0).filter (Wp s.fds y)=_
  rw [Zma,TM]
  rw [show (fun a=>Wp s.fds y a&&decide (a≠r.tk))=(fun a=>decide (a≠r.tk)&&Wp s.fds y a) from funext fun a=>Bool.and_comm _ _,<- TM]
  by_cases h:i=j
  ·subst h
   rw [hx] at hy;cases hy
   rw [XM ho] at hr;cases hr
   have e:=W.tok i x _ hx ho
   have nd:((ys++[r]).map (·.tk)).Nodup:=by
    rw [<- e]
    exact (List.nodup_range.sublist ((Ti (p:=Wq s.fds s.us 0)))).sublist Ti
   rw [e,map_append,filter_append]
   rw [map_append,Pp] at nd
   rw [show ([r].map (·.tk)).filter (fun a=>decide (a≠r.tk))=[] by simp,append_nil]
   refine Og.mpr fun a ha=>?_
   have:=nd.2.2 a ha r.tk (by simp)
   exact decide_eq_true this
  ·rw [XR h] at hr
   rw [W.tok j y rs' hy hr]
   refine Og.mpr fun a ha=>?_
   obtain ⟨z,hz,rfl⟩:=mem_map.mp ha
   refine decide_eq_true fun e=>?_
   have e1:=W.fd j y rs' hy hr z hz
   have e2:=W.fd i x _ hx ho r (by simp)
   have e:z.tk=r.tk:=e
   rw [e,e2] at e1
   injection e1 with e1
   injection e1 with _ e1
   exact Zdy W.nd hx hy h e1.symm
 fd:=fun j y rs' hy hr z hm=>by
  by_cases h:i=j
  ·subst h
   rw [hx] at hy;cases hy
   rw [XM ho] at hr;cases hr
   exact W.fd i x _ hx ho z (GV _ hm)
  ·rw [XR h] at hr
   exact W.fd j y rs' hy hr z hm
 ch:=fun j rs' hr as z zs e=>by
  by_cases h:i=j
  ·subst h
   rw [XM ho] at hr;cases hr
   exact W.ch i _ ho as z (zs++[r]) (by rw [e,append_assoc];rfl)
  ·rw [XR h] at hr
   exact W.ch j rs' hr as z zs e
 fv:=W.fv
theorem WI.last (W:WI xs qs s p G ops){i:Nat}{x:Str}{ys:List Row}{r:Row}(hx:xs[i]?=some x)(ho:ops[i]?=some (ys++[r])):s.fds[r.tk]?=some ⟨0,x,r.o⟩/\s.us[r.tk]?=some true/\Zbt s.fds s.us ⟨0,x,r.o⟩=some r.tk:=by
 have e1:=W.fd i x _ hx ho r (by simp)
 have e:=W.tok i x _ hx ho
 refine ⟨e1,?_,?_⟩
 ·have hm:r.tk∈(Wc s.fds s.us 0).filter (Wp s.fds x):=by rw [e];simp
  have hb:=(mem_filter.mp (mem_filter.mp hm).1).2
  unfold Wq at hb
  rw [QL] at hb
  have hb:=hb.1
  rw [getD_eq_getElem?_getD] at hb
  cases z:s.us[r.tk]? with
  | none=>rw [z] at hb;cases hb
  | some b=>rw [z] at hb;have hb:b=true:=hb;rw [hb]
 ·show ((Wc s.fds s.us 0).filter (Wp s.fds x)).getLast?=_
  rw [e,map_append];simp
end
structure Gr (s s':Hs):Prop where
 pl:s'.pls.length=s.pls.length+1
 nd:s'.nds.length<=s.nds.length+6
 tb:s'.tabs.length<=s.tabs.length+1
 fd:s'.fds.length<=s.fds.length+1
theorem ZjD {fs:List Fnd}{us:List Bool}{k:Nat}{f:Fnd}(h:fs[k]?=some f):facs fs (us.set k false)=(facs fs us).set k (Xn f false):=by
 unfold facs
 apply Sd
 intro j
 rw [getElem?_set,Py,Py,getElem?_set]
 by_cases hj:k=j
 ·subst hj
  rw [if_pos rfl,if_pos rfl,h,Of]
  have h1:=(Qf.mp h).1
  by_cases hu:k < us.length
  ·rw [if_pos hu,if_pos (by omega)]
  ·rw [if_neg hu,if_neg (by omega)]
 ·rw [if_neg hj,if_neg hj]
theorem Zjs {fs:List Fnd}{us:List Bool}(f:Fnd)(h:fs.length=us.length):facs (fs++[f]) (us++[true])=facs fs us++[Xn f true]:=by
 unfold facs;rw [List.zipWith_append h];rfl
section
variable {P:Qk}{w:Qv}{K:Qa}{mg:Str->Option Qb}{base:Heap}{CH CR CS CT Pl:Addr}
def spBR (K:Qa)(CH CR CS CT Pl:Addr):Sp:=fun vs H Q _=>∃(h dr fl:Addr)(x:Str)(xs:List Str)(qs:List (Str×V))(s:Hs)(p:Nat)(G:Str->Option V)(ops:List (List Row))(i:Nat)(ys:List Row)(r:Row)(Δ:Rs),vs=[.ref h,.ref dr,.ref fl,.str x]/\Sep ((h,Xf K CH CR CS CT s)::(Pl,YJ)::(dr,Wi xs (Xw ops))::(fl,TL (facs s.fds s.us))::Δ) H/\WI xs qs s p G ops/\HB s/\xs[i]?=some x/\ops[i]?=some (ys++[r]) /\
 ∀ (H':Hp) (s':Hs) (p':Nat) (G':Str->Option V),Sep ((h,Xf K CH CR CS CT s')::(Pl,YJ)::(dr,Wi xs (Xw (ops.set i ys)))::(fl,TL (facs s'.fds s'.us))::Δ) H'->WI xs qs s' p' G' (ops.set i ys)->Gr s s'->Q (.bl true) H'
abbrev nBR:List Str:=["_law_hall","_law_open_rows","_law_facts","_law_name","_law_token","_law_value_here","_law_old","_law_before","_law_step","_law_place"]
abbrev Zjy:List Str:=["_law_hall","_law_open_rows","_law_facts","_law_name"]
theorem scBR:Zm nBR Zjy (Zj s_l_back_right):=⟨rfl,rfl,rfl,by decide +kernel,rfl,by decide +kernel,by decide +kernel⟩
theorem ZoM {f:Addr}{fd:Qm}(F:Fun K "_law_back_right" "_law_back_right" s_l_back_right f fd)(T:ZY mg)(TH:Xg K CH)(TR:Wg K CR)(DH_place:DefM P w K mg base 14 CH "place" Zai (Zbw K CH CR CS CT))(DH_back:DefM P w K mg base 14 CH "back" ZfO (Zku K CH CR CS CT Pl))(DH_roads:DefM P w K mg base 14 CH "roads" ZgB (Zkp K CH CR CS CT))(DR_step:DefM P w K mg base 14 CR "step" Zgd (Zfo K CR CS))(DR_ahead:DefM P w K mg base 14 CR "ahead" ZgY (ZfI K CR CS)):FnOk P w K mg base ZC 15 f fd Zjy (spBR K CH CR CS CT Pl):=by
 refine F.ok scBR (fun vs H Q E h=>?_) (fun cdv A outer s0 H vs Q E hr h=>?_)
 ·obtain ⟨h,dr,fl,x,xs,qs,s,p,G,ops,i,ys,r,Δ,rfl,_⟩:=h;rfl
 obtain ⟨h,dr,fl,x,xs,qs,s,p,G,ops,i,ys,r,Δ,rfl,S,W,B,hx,ho,q⟩:=h
 obtain ⟨a,kvs,Γ,hval,S1,back⟩:=(S.pull dr).dtl W.nd hx (tss:=(ys++[r]).map Row.vs) (by rw [getElem?_map,ho];rfl)
 obtain ⟨as,el,hs⟩:=S1.get a
 rw [map_append] at hs
 obtain ⟨bs,b,rfl,hbs,eb⟩:=TLs.init hs
 have hg:DGet H dr (.str x) (some (.ref a)):=by have z:=DGet.k (k:=Qu x) (S1.get dr);rw [hval] at z;exact z
 obtain ⟨l1,l2,l3⟩:=W.last hx ho
 have hxm:=mem_of_getElem? hx
 obtain ⟨hrv,hro⟩:=W.rv i _ ho r (by simp)
 refine' ⟨?t,?h,?r⟩
 case h =>
  conv=>arg 2;whnf
  with_reducible refine' (Ze ?h1 (Ze ?h2 (Ze (ZZ ?h3 (Zh ?h4) ZM) (Ze ?h5 (XC ?h6 (Ze ?h7 (Zh ?h8)))))))
  case h1=>exact Yu (Zho QB JX Rp ZmE (Xm (YL hr) (pv 1) (pv 3) (fun _ _=>rfl))) (Xz rfl (ZF (ZA (i:=4) scBR.nd rfl (Qz rfl)) (ZF (ZA (i:=5) scBR.nd rfl (Qz rfl)) (ZF (ZA (i:=6) scBR.nd rfl (Qz rfl)) Xb))))
  case h2=>exact Zv (i:=7) scBR.nd rfl (Qz rfl) (ZH DH_place TH.cl hr (pv 0) (Zb Zi Za))
  case h3=>exact Xa (Zlk (ZH DH_back TH.cl hr (pv 0) (Zb (pv 4) Za)))
  case h4=>exact Zq YV
  case h5=>exact Yu (Zx ZlM (ZaU Zoo (Zz ZB (pv 2) (pv 4) (fun _ _=>rfl)) Zcb (Zct Zi)) (Yi (Zb YV Za))) (Wm (pv 2) (pv 4) Xi)
  case h6=>exact Zv (i:=8) scBR.nd rfl (Qz rfl) (Yo (Xa (Wh (pv 6))) (Yi (Zb ZS (Zb (pv 3) Za))) (Yi (Zb ZS (Zb (pv 3) (Zb (pv 6) Za)))))
  case h7=>exact Zv (i:=9) scBR.nd rfl (Qz rfl) (ZH DH_place TH.cl hr (pv 0) (Zb Zi Za))
  case h8=>exact Zq (Zij (Wv Yx (Zr (YU hr.gd hr.units) rfl T.repr (by decide +kernel) (Zb (ZH DR_step TR.cl hr (WT DH_roads TH.cl hr (pv 0)) (Zb (pv 9) Za)) Za)) (Zr (YU hr.gd hr.units) rfl T.repr (by decide +kernel) (Zb (pv 8) Za)) (ZJ _)) (Zhc (Wv Yx (ZH DR_ahead TR.cl hr (WT DH_roads TH.cl hr (pv 0)) (Zb (pv 9) Za)) (pv 7) (ZJ _))))
 try dsimp only [ZQ,Cx.nox]
 refine zs5 ?_
 intro zD zS zN4 zN3 zN2 zN1
 refine ⟨_,rfl,_,rfl,dr,_,rfl,hg,.inl ⟨rfl,_,SqL.of el⟩,a,_,.ref b,rfl,rfl,el,(by simp),?_⟩
 rw [show ((bs++[b]).map V.ref).dropLast=bs.map V.ref by rw [map_append];simp]
 generalize hE:upd H a _=H1
 have S2:=S1.tlPut hE (as':=bs) rfl hbs
 have eb1:H1 b=some (.tup r.vs):=by
  rw [<- hE,Zg (fun z=>by rw [z,el] at eb;cases eb)];exact eb
 clear hE
 have S3:=back (ys.map Row.vs) H1 _ S2
 rw [show (Xw ops).set i (ys.map Row.vs)=Xw (ops.set i ys) from (map_set ..).symm] at S3
 have S4:=(S3.pull Pl).pull h
 clear S3 S2 S1 back hg hbs hs eb
 obtain ⟨d0,r0,sp0,i0,t0,Sh⟩:=S4.get h
 obtain ⟨dx,ob⟩:=Sh.get h
 refine ⟨b,_,rfl,SqT.of eb1,rfl,_,_,rfl,_,_,rfl,_,_,rfl,rfl,?_⟩
 refine ⟨_,rfl,h,dx,_,rfl,ob,Yg (by decide +kernel),h,s,0,p,rfl,S4.get h,by rw [W.sp];rfl,?_⟩
 refine ⟨_,rfl,h,dx,_,rfl,ob,Yg (by decide +kernel),_,rfl,xs,h,s,p,r.tk,⟨0,x,r.o⟩,_,rfl,S4,W.I,B,by rw [W.ins];rfl,by rw [W.sp];rfl,l1,l2,l3,hxm,hro,fun H2 t' c nds tabs S5 I5 b1 b2=>⟨_,rfl,ZP ?_⟩⟩
 have W':=W.bk hx ho I5
 obtain ⟨as2,el2,hs2⟩:=S5.get fl
 obtain ⟨fa,hfa,efa⟩:=hs2.atV (Zaf l1 l2)
 refine ⟨_,rfl,_,rfl,fl,_,_,_,rfl,rfl,SqL.of el2,ZE hfa,?_⟩
 dsimp only [Zfl]
 refine ⟨3,rfl,fa,_,rfl,SqT.of efa,(by show ¬ (HT.sIx 4 0 none=0/\HT.sIx 4 4 (some 3)=4);decide),fun c1 hc1=>⟨(by show 1<=Qi;decide),fun c2 hc2=>?_⟩⟩
 have w1:=Zk hc1 (.tup (Vy (Xn ⟨0,x,r.o⟩ true) none (some 3)))
 have w2:=Zk hc2 (.tup [.bl false])
 refine ⟨c1,c2,_,_,rfl,rfl,SqT.of (w2 _ _ Zf),SqT.of Zf,(by show Vy (Xn ⟨0,x,r.o⟩ true) none (some 3)≠[];exact fun z=>nomatch z),(by show 4<=Qi;decide),(fun z=>nomatch z),fun _ c3 hc3=>?_⟩
 have S6':=(S5.mono (w1.trans w2)).mono (Zk hc3 (.tup (Xn ⟨0,x,r.o⟩ false)))
 have ec3:upd (upd (upd H2 c1 (.tup (Vy (Xn ⟨0,x,r.o⟩ true) none (some 3)))) c2 (.tup [.bl false])) c3 (.tup (Xn ⟨0,x,r.o⟩ false)) c3=some (.tup (Xn ⟨0,x,r.o⟩ false)):=Zf
 show gSub _ _ _ _ _ (upd (upd (upd H2 c1 (.tup (Vy (Xn ⟨0,x,r.o⟩ true) none (some 3)))) c2 (.tup [.bl false])) c3 (.tup (Xn ⟨0,x,r.o⟩ false))) _
 generalize upd (upd (upd H2 c1 (.tup (Vy (Xn ⟨0,x,r.o⟩ true) none (some 3)))) c2 (.tup [.bl false])) c3 (.tup (Xn ⟨0,x,r.o⟩ false))=H3 at S6' ec3 ⊢
 obtain ⟨as3,el3,hs3⟩:=S6'.get fl
 have hkl:r.tk < as3.length:=by
  rw [hs3.1];exact (Qf.mp (Zaf l1 l2)).1
 refine ⟨_,rfl,_,rfl,fl,_,_,r.tk,rfl,rfl,el3,(by unfold XI;rw [length_map,if_pos (by omega)];simp [hkl]),?_⟩
 generalize hE:upd H3 fl _=H4
 have S6:=S6'.tlPut hE (as':=as3.set r.tk c3) (by rw [map_set]) (hs3.set ec3 r.tk)
 clear hE
 rw [show (facs s.fds s.us).set r.tk (Xn ⟨0,x,r.o⟩ false)=facs s.fds (s.us.set r.tk false) from (ZjD l1).symm] at S6
 obtain ⟨s',hs'⟩:∃ s':Hs,s'={ UE s 0 p (Xy x r.o) t' c nds tabs with us:=s.us.set r.tk false }:=⟨_,rfl⟩
 have S7:Sep ((h,Xf K CH CR CS CT s')::(Pl,YJ)::(dr,Wi xs (Xw (ops.set i ys)))::(fl,TL (facs s'.fds s'.us))::Δ) H4:=by rw [hs'];exact ((S6.pull dr).pull Pl).pull h
 have W7:WI xs qs s' (s.pls.length+1) ((Xy x r.o).ap G) (ops.set i ys):=by rw [hs'];exact W'
 have hp7:s'.pls=s.pls++[⟨p,Xy x r.o,t',c⟩]:=by rw [hs'];rfl
 have g7:Gr s s':=by rw [hs'];exact ⟨by show (_++[_]).length=_;rw [length_append];rfl,b1,b2,Gu _⟩
 have hxn:=Zap (W.nm x hxm)
 have hsn:∀ v∈(Xy x r.o).vs,Ym v:=fun v hv=>by
  unfold Xy at hv
  split at hv
  ·rcases mem_cons.mp hv with rfl | hv
   ·exact VF (by decide +kernel)
   ·rw [mem_singleton.mp hv];exact hxn
  ·rcases mem_cons.mp hv with rfl | hv
   ·exact VF (by decide +kernel)
   rcases mem_cons.mp hv with rfl | hv
   ·exact hxn
   ·rw [mem_singleton.mp hv];exact hro
 have hsl:(Xy x r.o).vs.length<=1000:=by unfold Xy;split<;>first | exact (show 2<=1000 by decide) | exact (show 3<=1000 by decide)
 clear S6 S6' S5 S4 W' hs' el3 hs3 ec3 el2 hs2 efa
 refine ⟨fun σ' H'=>∃ t2 y9,σ'=[some (.ref h),some (.ref dr),some (.ref fl),some (.str x),some (nI r.tk),some r.v,some r.o,some (.int (p:Int)),some (.ref t2),y9]/\H' t2=some (.tup (Xy x r.o).vs)/\Sep ((h,Xf K CH CR CS CT s')::(Pl,YJ)::(dr,Wi xs (Xw (ops.set i ys)))::(fl,TL (facs s'.fds s'.us))::Δ) H',?_,?_⟩
 ·unfold Xy
  refine ⟨_,rfl,_,rfl,XJ (fun c=>?_) (fun c=>?_)⟩
  ·rw [if_pos (of_decide_eq_true c)]
   exact ⟨_,rfl,(by show 2<=Qi;decide),fun t2 ht2=>⟨t2,_,rfl,Zf,S7.mono (Zk ht2 _)⟩⟩
  ·rw [if_neg (fun z=>c (decide_eq_true z))]
   exact ⟨_,rfl,_,rfl,(by show 3<=Qi;decide),fun t2 ht2=>⟨t2,_,rfl,Zf,S7.mono (Zk ht2 _)⟩⟩
 clear S7
 rintro σ H5 ⟨t2,y9,rfl,e2,S7⟩
 obtain ⟨d0,r0,sp0,i0,t0,Sh⟩:=S7.get h
 obtain ⟨dx,ob⟩:=Sh.get h
 have hk9:s.pls.length+1<=s'.pls.length:=by rw [g7.pl];exact Qh _
 refine ⟨_,rfl,h,dx,_,rfl,ob,Yg (by decide +kernel),h,s',0,s.pls.length+1,rfl,S7.get h,by rw [W7.sp];rfl,?_⟩
 refine ⟨_,rfl,h,dx,_,rfl,ob,Yg (by decide +kernel),h,s',rfl,S7.get h,fun r1 R1=>?_⟩
 obtain ⟨st,la,ls,lt,lc,SR⟩:=id R1
 obtain ⟨dxr,obr⟩:=SR.get r1
 refine ⟨r1,dxr,_,rfl,obr,XA (by decide +kernel),_,rfl,r1,s'.pls,s'.nds,s'.tabs,s.pls.length+1,rfl,R1,hk9,fun v hv=>?_⟩
 obtain ⟨a1,st1,rfl,hst,ea⟩:=hv
 have hst:(s'.pls.map (·.st))[s.pls.length]?=some st1:=hst
 rw [hp7,map_append,getElem?_append_right (by rw [length_map];exact Qh _),length_map,Gc] at hst
 cases hst
 obtain ⟨u1,u2,u3,u4⟩:=UD ea hsn hsl
 obtain ⟨v1,v2,v3,v4⟩:=UD e2 hsn hsl
 refine ⟨_,_,rfl,u1,u2,u3,u4,_,rfl,_,_,rfl,v1,v2,v3,v4,rfl,?_⟩
 rw [decide_eq_true (show V.str _=V.str _ from rfl)]
 refine ⟨_,rfl,Yk ⟨_,rfl,h,dx,_,rfl,ob,Yg (by decide +kernel),h,s',rfl,S7.get h,fun r2 R2=>?_⟩⟩
 obtain ⟨st,la,ls,lt,lc,SR2⟩:=id R2
 obtain ⟨dxr2,obr2⟩:=SR2.get r2
 refine ⟨r2,dxr2,_,rfl,obr2,XA (by decide +kernel),_,rfl,r2,s'.pls,s'.nds,s'.tabs,s.pls.length+1,rfl,R2,hk9,_,rfl,rfl,?_⟩
 have ha:ahV s'.pls (s.pls.length+1)=.int (p:Int):=by
  show V.int (((s'.pls.getD s.pls.length _).ah:Nat):Int)=_
  rw [hp7,getD_eq_getElem?_getD,getElem?_append_right (Qh _),Gc];rfl
 rw [ha,decide_eq_true (show V.int (p:Int)=V.int (p:Int) from rfl)]
 exact q H5 s' _ _ S7 W7 g7
end
abbrev Zko (P:Qk)(w:Qv)(K:Qa)(mg:Str->Option Qb)(base:Heap):Prop:=Def P w K mg base 1 "_law_take" ["_law_box_here","_law_many"] (Zbj 4611686018427387904)
section
variable {P:Qk}{w:Qv}{K:Qa}{mg:Str->Option Qb}{base:Heap}
abbrev vSigns:Str:=ZkA (XB s_l_value)
theorem vs_len:vSigns.length=94:=by decide +kernel
theorem Zny:vSigns.cps.toList.all VH=true:=by decide +kernel
abbrev nVv:List Str:=["_law_box_here","_law_way","_law_signs"]
theorem scVal:Zm nVv ["_law_box_here"] (Zj s_l_value):=⟨rfl,rfl,rfl,by decide +kernel,rfl,by decide +kernel,by decide +kernel⟩
theorem ZiK {f:Addr}{fd:Qm}(F:Fun K "_law_value" "_law_value" s_l_value f fd)(T:Txt K mg)(D:Zko P w K mg base):FnOk P w K mg base ZC 2 f fd ["_law_box_here"] ZfC:=by
 refine F.ok scVal (fun vs H Q E h=>?_) (fun cdv A outer s H vs Q E hr h=>?_)
 · obtain ⟨p,n,rfl,_⟩:=h;rfl
 obtain ⟨p,n,rfl,hB,hn,q⟩:=h
 refine ⟨_,Ze (Zv (i:=1) scVal.nd rfl (Qz rfl) (ZI D hr (Zb (pv 0) (Zb Zi Za))))
   (Ze (ZZ (ZL Zbk (pv 1) Zi (ZJ _)) (Zh (Zq (Zx Xt (ZI D hr (Zb (pv 0) (Zb Zi Za))) Zi))) ZM)
   (Ze (ZZ (ZL Yx (pv 1) Zi (ZJ _)) (Zh (Zq (Zz ZB (ZX (Wk (Zx Xt (Zx ZbQ Zi Zi) Zi) (Wk (Zx Xt Zi (Zx ZbQ Zi Zi)) (Wk (Zx ZbQ Zi Zi) (Wk Zi Za rfl) rfl) rfl) rfl)) (ZI D hr (Zb (pv 0) (Zb Zi Za))) (fun _ _=>rfl)))) ZM)
   (Ze (ZZ (ZL Yx (pv 1) Zi (ZJ _)) (Zh (Zq (Zz ZB (ZX (Wk ZS (Wk ZS (Wk ZS (Wk ZS (Wk ZS (Wk ZS (Wk ZS (Wk ZS Za rfl) rfl) rfl) rfl) rfl) rfl) rfl) rfl)) (ZI D hr (Zb (pv 0) (Zb Zi Za))) (fun _ _=>rfl)))) ZM)
   (Ze (Zv (i:=2) scVal.nd rfl (SX rfl) ZS)
   (Zh (Zq (YS Ra Rn Ro ZfA ZS (Zb (Zah (CompOk.of nVv s_l_value rfl rfl (by decide +kernel)) rfl
     (Xx rfl T.range (Zb (ZI D hr (Zb (pv 0) (Zb (Yo (ZL Yx (pv 1) Zi (ZJ _)) Zi Zi) Za))) Za))
     (fun _ _ _ _ _=>Zz Zbf (pv 2) (ZI D hr (Zb (pv 0) (Zb (Zr (Zin (K:=K) rfl) rfl T.len QM (Zb (pv 2) Za)) Za))) (fun _ _=>rfl))) Za)))))))),?_⟩
 refine ⟨_,rfl,p,n,6,rfl,hB,by omega,by decide,by decide,fun r1 H1 a0 a1 B1 k1=>?_⟩
 refine ⟨_,rfl,_,_,rfl,rfl,_,rfl,XJ (fun c=>?_) (fun c=>?_)⟩
 · refine ⟨_,rfl,p,n+1,7,rfl,B1,by omega,by decide,by decide,fun r2 H2 b0 b1 B2 k2=>⟨_,_,rfl,rfl,?_⟩⟩
   exact q _ _ (by show (r2 - 3).natAbs < 10 ^ 30;omega) (B2.le (by omega)) (k1.trans k2)
 refine ⟨_,rfl,rfl,_,rfl,XJ (fun c2=>?_) (fun c2=>?_)⟩
 · refine ⟨_,_,rfl,rfl,⟨by decide,by decide,by decide⟩,_,_,rfl,rfl,_,_,rfl,rfl,⟨by decide,by decide,by decide⟩,_,_,rfl,rfl,_,_,rfl,rfl,⟨by decide,by decide,by decide⟩,(by show 4<=Qi;decide),fun l hl=>?_⟩
   have hne:l≠p:=fun e=>by obtain ⟨_,_,_,z,_⟩:=B1;rw [e,z] at hl;cases hl
   refine ⟨_,rfl,p,n+1,4,rfl,B1.same (Zk hl _),by omega,by decide,by decide,fun r2 H2 b0 b1 B2 k2=>?_⟩
   obtain ⟨v,hv,hm⟩:=Zca (xs:=([.int (10 ^ (30:Int).toNat - 1),.int (1 - 10 ^ (30:Int).toNat),.int (10 ^ (29:Int).toNat),.int 0]:List V)) b0 b1
   refine ⟨l,_,_,v,rfl,rfl,SqL.of (k2 l _ hne Zf),hv,q _ _ ?_ (B2.le (by omega)) (k1.trans ((Zk hl _).kp p |>.trans k2))⟩
   have all:(([.int (10 ^ (30:Int).toNat - 1),.int (1 - 10 ^ (30:Int).toNat),.int (10 ^ (29:Int).toNat),.int 0]:List V)).all Zdv=true:=by decide +kernel
   exact ZaD (all_eq_true.mp all v hm)
 refine ⟨_,rfl,rfl,_,rfl,XJ (fun c3=>?_) (fun c3=>?_)⟩
 · refine ⟨(by show 8<=Qi;decide),fun l hl=>?_⟩
   have hne:l≠p:=fun e=>by obtain ⟨_,_,_,z,_⟩:=B1;rw [e,z] at hl;cases hl
   refine ⟨_,rfl,p,n+1,8,rfl,B1.same (Zk hl _),by omega,by decide,by decide,fun r2 H2 b0 b1 B2 k2=>?_⟩
   obtain ⟨v,hv,hm⟩:=Zca (xs:=([.str "",.str "0",.str "-1",.str "a",.str "none",.str "'",.str "\\", .str " "]:List V)) b0 b1
   refine ⟨l,_,_,v,rfl,rfl,SqL.of (k2 l _ hne Zf),hv,q _ _ ?_ (B2.le (by omega)) (k1.trans ((Zk hl _).kp p |>.trans k2))⟩
   have all:(([.str "",.str "0",.str "-1",.str "a",.str "none",.str "'",.str "\\", .str " "]:List V)).all Zdv=true:=by decide +kernel
   exact ZaD (all_eq_true.mp all v hm)
 refine ⟨rfl,?_⟩
 have fin:∀ (r2:Int) (H2:Hp),0<=r2->r2 < 41->BoxAt H2 p (n+2)->Kp p H1 H2->∃ j:Int,[V.int r2]=[.int j]/\-(2 ^ 62)<=j/\j < 2 ^ 62/\∀ D,H2 D=none->CompW (Itr 0 j.toNat)
     (tOp rIxS (ZeB 2) (Zgl (Zbj 4611686018427387904) [] E0 (XZ (ZeB 0) (XZ (tCB (fun xs H Q=>∃ x n,xs=[x]/\Zje K x H n/\Q (.int n) H) (XZ (ZeB 2) WP)) WP))))
     [some (.ref p),some (.int r1),some (.str vSigns)] D (fun x H3=>∃ sep a ys,V.str ""=.str sep/\[x]=[.ref a]/\SqL K H3 a (ys.map V.str)/\(ys.map (·.length)).sum+ys.length * sep.length<=16777216/\Q (.str (Txt.join sep ys)) H3) H2:=by
   intro r2 H2 b0 b1 B2 k2
   refine ⟨r2,rfl,by omega,by omega,fun Dl hD=>?_⟩
   have hne:Dl≠p:=fun e=>by obtain ⟨_,_,_,z,_⟩:=B2;rw [e,z] at hD;cases hD
   refine ZbO (Qn (show r2.toNat<=1000 by omega) (ZfJ (Qh _)))
     (fun i ys H'=>∃ zs:List Str,ys=zs.map V.str/\zs.length=i/\(∀ z∈zs,∃ c,z=⟨#[c]⟩/\VH c=true)/\H' Dl=some (.lst ys)/\BoxAt H' p (n+2+i)/\Kp p H1 H'/\i<=r2.toNat)
     ⟨[],rfl,rfl,(fun _ h=>nomatch h),Zf,B2.same (Zk hD _),k2.trans ((Zk hD _).kp p),QC _⟩ ?_ ?_ ?_
   · rintro i ys H' ⟨zs,rfl,hz,_⟩;rw [length_map];exact hz
   · rintro i ys H' hi ⟨zs,rfl,hz,hall,hDl,B',k',_⟩
     refine ⟨_,rfl,_,rfl,_,rfl,_,94,rfl,⟨by rw [vs_len];decide,vs_len.symm⟩,p,n+2+i,94,rfl,B',by omega,by decide,by decide,fun r3 H3 d0 d1 B3 k3=>?_⟩
     have hl:vSigns.cps.toList.length=94:=by rw [<- Yr];exact vs_len
     obtain ⟨c,hc,hm⟩:=Zca (xs:=vSigns.cps.toList) d0 (by rw [hl];exact d1)
     refine ⟨vSigns,r3,c,rfl,rfl,(by rw [vs_len];decide),hc,k3 Dl _ hne hDl,zs++[⟨#[c]⟩],by rw [map_append];rfl,by rw [length_append,hz];rfl,?_,Zf,?_,fun b o nb e=>?_,hi⟩
     · intro z hz'
       rcases mem_append.mp hz' with h | h
       · exact hall z h
       · rw [mem_singleton.mp h];exact ⟨c,rfl,all_eq_true.mp Zny c hm⟩
     · obtain ⟨x1,x2,x3,x4,x5⟩:=B3
       exact ⟨x1,x2,x3,by rw [Zg hne.symm];exact x4,x5⟩
     · rw [Zg (Zt (k2 b o nb e) hD)];exact k3 b o nb (k' b o nb e)
   · rintro ys H' ⟨zs,rfl,hz,hall,hDl,B',k',_⟩
     have ones:∀ l:List Str,(∀ z∈l,∃ c,z=⟨#[c]⟩/\VH c=true)->(l.map (·.length)).sum=l.length/\(l.flatMap (·.cps.toList)).length=l.length/\(l.flatMap (·.cps.toList)).all VH=true:=by
       intro l
       induction l with
       | nil=>intro _;exact ⟨rfl,rfl,rfl⟩
       | cons z r ih =>
         intro h
         obtain ⟨c,rfl,hc⟩:=h z mem_cons_self
         obtain ⟨g1,g2,g3⟩:=ih fun y hy=>h y (mem_cons_of_mem _ hy)
         refine ⟨?_,?_,?_⟩
         · rw [map_cons,Oq,g1,length_cons];show 1+_=_;omega
         · have e0:((⟨#[c]⟩:Str)::r).flatMap (·.cps.toList)=c::r.flatMap (·.cps.toList):=rfl
           rw [e0,length_cons,length_cons,g2]
         · rw [Sb,Rj,g3];simp [hc]
     obtain ⟨g1,g2,g3⟩:=ones zs hall
     refine ⟨_,Dl,zs,rfl,rfl,SqL.of hDl,?_,q _ _ ⟨?_,?_⟩ (B'.le (by omega)) (k1.trans k')⟩
     · rw [g1];show _+_ * 0<=_;omega
     · rw [Yr];show (Txt.join (QA "") zs).cps.toList.length<=40;rw [WU,g2];omega
     · show (Txt.join (QA "") zs).cps.toList.all VH=true;rw [WU];exact g3
 refine ⟨_,rfl,_,rfl,rfl,_,rfl,XJ (fun c4=>?_) (fun c4=>?_)⟩
 · exact ⟨p,n+1,4,rfl,B1,by omega,by decide,by decide,fun r2 H2 b0 b1 B2 k2=>fin r2 H2 b0 (by omega) B2 k2⟩
 · exact ⟨p,n+1,41,rfl,B1,by omega,by decide,by decide,fun r2 H2 b0 b1 B2 k2=>fin r2 H2 b0 (by omega) B2 k2⟩
end
theorem ZgE {K:Qa}{H:Hp}{a Pl Pq:Addr}{ns:List Int}{q:Str}(hS:SqL K H a (ns.map V.int))(h1:H Pl=some (.tbl #[]))(h2:H Pq=some (.tbl #[]))(hne:Pl≠Pq):Sep [(Pl,YJ),(Pq,WS q),(a,ScR K ns)] H:=by
 have c1:∀ b o,H b=some o->b≠Pl->UB H (one Pl (.tbl #[])) b=some o:=fun b o e n=>cut_some.mpr ⟨e,fun v z=>absurd (one_some.mp z).1 n⟩
 refine ⟨one Pl (.tbl #[]),fun b o e=>?_,.inl (one_some.mpr ⟨rfl,rfl⟩),one Pq (.tbl #[]),fun b o e=>?_,⟨[],one_some.mpr ⟨rfl,rfl⟩,fun _ z=>nomatch z⟩,_,fun b o e=>e,?_,trivial⟩
 ·obtain ⟨rfl,rfl⟩:=one_some.mp e;exact h1
 ·obtain ⟨rfl,rfl⟩:=one_some.mp e;exact c1 _ _ h2 hne.symm
 ·rcases hS.obj with z | ⟨o,e,nt,z⟩
  ·exact z _
  ·have n1:a≠Pl:=fun y=>by rw [y,h1] at e;cases e;exact absurd rfl (nt _)
   have n2:a≠Pq:=fun y=>by rw [y,h2] at e;cases e;exact absurd rfl (nt _)
   exact z _ (cut_some.mpr ⟨c1 _ _ e n1,fun v y=>absurd (one_some.mp y).1 n2⟩)
abbrev hsQ (qs:List (Str×V)):Hs:={ hs0 with dfs:=Yf qs }
theorem wi0 {xs:List Str}{qs:List (Str×V)}(N:Yq xs)(qn:qs.map (·.1)=xs)(nd:xs.Nodup)(nm:∀ x∈xs,Um x)(nv:∀ q∈qs,Ym q.2):WI xs qs (hsQ qs) 0 (fun _=>none) (Qy xs.length []):=by
 have rep:∀ {i:Nat} {rs:List Row},(Qy xs.length ([]:List Row))[i]?=some rs->rs=[]:=fun h=>JR (mem_of_getElem? h)
 refine ⟨⟨N,ZoD,fun p hp=>by rw [mem_singleton.mp hp];exact QC _⟩,rfl,rfl,rfl,rfl,qn,nd,nm,nv,rfl,QC _,length_replicate,?_,?_,?_,?_,?_,fun _ z=>nomatch z⟩
 ·intro i x rs hx hr;rw [rep hr];rfl
 ·intro i rs hr r hm;rw [rep hr] at hm;cases hm
 ·intro i x rs hx hr;rw [rep hr];rfl
 ·intro i x rs hx hr r hm;rw [rep hr] at hm;cases hm
 ·intro i rs hr ys r zs e;rw [rep hr] at e;cases ys<;>cases e
theorem Zif {n:Nat}(h:n<=1000000):((n:Int)).natAbs.log2 < 1920:=by
 rw [Int.natAbs_natCast]
 by_cases z:n=0
 ·subst z;decide
 ·exact (NK z).mpr (QO h (QD (show 1000000 < 2 ^ 20 by decide) (RE (by decide) (by decide))))
theorem Zmz {k n:Nat}(h:k < n):RQ (k:Int) n=some k:=by
 have h1:¬ (k:Int) < 0:=by omega
 unfold RQ
 simp only [if_neg h1]
 rw [if_pos (by simp;omega)];rfl
theorem ZcU {α β:Type}(f:α->β):∀(l:List α)(k:Nat),(l.map f).eraseIdx k=(l.eraseIdx k).map f
 | [],_=>rfl
 | _::_,0=>rfl
 | x::l,k+1=>by rw [map_cons,Pa,Pa,map_cons,ZcU f l k]
structure Gn (s:Hs)(n:Nat):Prop where
 pl:s.pls.length<=n
 nd:s.nds.length<=1+6 * n
 tb:s.tabs.length<=1+n
theorem Gn.up {s s':Hs}{n:Nat}(h:Gn s n)(g:Gr s s'):Gn s' (n+1):=⟨by rw [g.pl];have:=h.pl;omega,by have:=h.nd;have:=g.nd;omega,by have:=h.tb;have:=g.tb;omega⟩
theorem Gn.hb {xs:List Str}{qs:List (Str×V)}{s:Hs}{p:Nat}{G:Str->Option V}{ops:List (List Row)}{n:Nat}(h:Gn s n)(W:WI xs qs s p G ops)(hn:n<=2000):HB s:=⟨by have:=h.pl;omega,by have:=h.nd;omega,by have:=h.tb;omega,W.fl,W.fu⟩
section
variable {P:Qk}{w:Qv}{K:Qa}{mg:Str->Option Qb}{base:Heap}{CH CR CS CT Pl Pq:Addr}
def Zew (K:Qa)(CH CR CS CT:Addr):Sp:=fun vs H Q _=>∃(h:Addr)(s:Hs)(qs:List (Str×V))(x:Str)(v:V)(Δ:Rs),vs=[.ref h,.str x,v]/\Sep ((h,Xf K CH CR CS CT s)::Δ) H/\s.dfs=Yf qs/\qs.length<=1000/\x ∉ qs.map (·.1)/\∀ H',Sep ((h,Xf K CH CR CS CT { s with dfs:=Yf (qs++[(x,v)]) })::Δ) H'->Q .non H'
theorem ZpI {CX:Addr}{vs:List V}{H:Hp}{Q:VK}{E:XK}(h:Zew K CH CR CS CT vs H Q E):Zkz K CH CR CS CT CX vs H Q (fun _ _ _=>False):=by
 obtain ⟨h,s,qs,x,v,Δ,e,S,h1,h2,h3,q⟩:=h
 exact ⟨h,s,qs,x,v,Δ,e,S,h1,h2,fun z=>absurd z h3,fun _=>q⟩
def Zdt (K:Qa)(Pl Pq:Addr):Sp:=fun vs H Q _=>∃(a:Addr)(ns:List Int),vs=[.ref a]/\SqL K H a (ns.map V.int)/\ns.length<=63/\H Pl=some (.tbl #[])/\H Pq=some (.tbl #[])/\Pl≠Pq/\∀ H',Q (.bl true) H'
abbrev UX (K:Qa)(CH CR CS CT Pl Pq p h dd dr fl nl a:Addr)(ns:List Int)(xs ks:List Str)(qs:List (Str×V))(s:Hs)(ops:List (List Row))(n:Nat):Rs:=[(p,Bx n),(h,Xf K CH CR CS CT s),(Pl,YJ),(Pq,WS qS),(dd,Xu (Yf qs)),(dr,Wi ks (Xw ops)),(fl,TL (facs s.fds s.us)),(nl,Yj (xs.map V.str)),(a,ScR K ns)]
abbrev nLw:List Str:=["_law_script","_law_k","_law_box_here","_law_names_here","_law_hall","_law_defaults","_law_open_rows","_law_facts","_law_name","_law_turn","_law_old","_law_value_here","_law_left"]
abbrev pnLw:List Str:=["_law_script"]
theorem scLw:Zm nLw pnLw (Zj s_law):=⟨rfl,rfl,rfl,by decide +kernel,rfl,by decide +kernel,by decide +kernel⟩
theorem ZnU {f:Addr}{fd:Qm}(F:Fun K "law" "law" s_law f fd)(T:ZY mg)(TH:Xg K CH)(DT:DTk P w K mg base 1)(DB:Def P w K mg base 18 "_law_box" ["_law_script","_law_k"] (Zex K))(DN:Def P w K mg base 18 "_law_names" ZjT Zei)(DV:Def P w K mg base 18 "_law_value" ["_law_box_here"] ZaB)(DHl:Zcs P w K mg base 17 CH "Hall" ["self"] (Zft K CH CR CS CT))
 (DH_declare:DefM P w K mg base 18 CH "declare" Zdj (Zew K CH CR CS CT)) (DH_set_to:DefM P w K mg base 18 CH "set_to" Zgx (Zkt K CH CR CS CT Pl)) (DVo:Def P w K mg base 18 "_law_value_of" ZgT Zjx) (DSR:Def P w K mg base 18 "_law_state_right" Zjb (spSR K CH CR CS CT Pq)) (DBR:Def P w K mg base 18 "_law_back_right" Zjy (spBR K CH CR CS CT Pl)):FnOk P w K mg base ZC 19 f fd pnLw (Zdt K Pl Pq):=by
 refine F.ok scLw (fun vs H Q E h=>?_) (fun cdv A outer s H vs Q E hr h=>?_)
 ·obtain ⟨a,ns,rfl,_⟩:=h;rfl
 obtain ⟨a,ns,rfl,hS,hl,hL1,hL2,hLn,q⟩:=h
 have hr1:=hr.mono (show 1<=18 by decide)
 refine' ⟨?t,?h,?r⟩
 case h =>
  conv=>arg 2;whnf
  with_reducible refine' (Ze (WJ ?h1 ?h2 ?h3 ?h4 (Ze ?h5 (Ze ?h6 (Ze ?h7 (Ze (WJ ?h8 ?h9 ?h10 ?h11 (XC ?h12 (Ze ?h13 (Zh ?h14))) ?h15) (Ze (WJ ?h16 ?h17 ?h18 ?h19 (XC ?h20 (XC (ZZ ?h21 (Zh (ZZ ?h22 (Zh ?h23) ZM)) (Ze ?h24 (Ze (ZZ ?h25 (Zh ?h26) ZM) (Ze ?h27 (Zh ?h28))))) (Zh (ZZ ?h29 (Zh ?h30) ZM)))) ?h31) (Ze ?h32 (Ze (WJ ?h33 ?h34 ?h35 ?h36 (Zh ?h37) ?h38) (Ze (Zeb ?h39 ?h40 (XC ?h41 (Zh (ZZ ?h42 (Zh ?h43) ZM)))) (Zh (ZZ ?h44 (Zh ?h45) ZM)))))))))) ?h46) (Zh ?h47))
  case h1=>exact Gi
  case h2=>exact rfl
  case h3=>exact Xx rfl T.range (Zb (Zx YI Zi (Zr (ZhD rfl) rfl T.min (by decide +kernel) (Zb Zi (Zb (Zr ZO rfl T.len QM (Zb (pv 0) Za)) Za)))) Za)
  case h4=>exact ZA (i:=1) scLw.nd rfl (Qz rfl)
  case h5=>exact Zv (i:=2) scLw.nd rfl (Qz rfl) (ZI DB hr (Zb (pv 0) (Zb (pv 1) Za)))
  case h6=>exact Zv (i:=3) scLw.nd rfl (Qz rfl) (ZI DN hr (Zb (pv 2) (Zb (Zx YI Zi (ZI DT hr1 (Zb (pv 2) (Zb Zi Za)))) Za)))
  case h7=>exact Yu (Yi (Zb (Zdr DHl hr) (Zb ZaW (Zb ZaW (Zb (ZX Za) Za))))) (Xz rfl (ZF (ZA (i:=4) scLw.nd rfl (Qz rfl)) (ZF (ZA (i:=5) scLw.nd rfl (Qz rfl)) (ZF (ZA (i:=6) scLw.nd rfl (Qz rfl)) (ZF (ZA (i:=7) scLw.nd rfl (Qz rfl)) Xb)))))
  case h8=>exact Gi
  case h9=>exact rfl
  case h10=>exact Zao (pv 3)
  case h11=>exact ZA (i:=8) scLw.nd rfl (Qz rfl)
  case h12=>exact Vb (YL hr) (pv 5) (pv 8) (Yo (ZL Yx (ZI DT hr1 (Zb (pv 2) (Zb Zi Za))) Zi (ZJ _)) XX (ZI DV hr (Zb (pv 2) Za))) rfl
  case h13=>exact ZU (ZH DH_declare TH.cl hr (pv 4) (Zb (pv 8) (Zb (Xm (YL hr) (pv 5) (pv 8) (fun _ _=>rfl)) Za)))
  case h14=>exact Vb (YL hr) (pv 6) (pv 8) (ZX Za) rfl
  case h15=>exact fun _=>rfl
  case h16=>exact Gi
  case h17=>exact rfl
  case h18=>exact Zmn (Xx rfl T.range (Zb (Yo (ZL Yx (ZI DT hr1 (Zb (pv 2) (Zb Zi Za))) Zi (ZJ _)) Zi (Zx YI Zi (ZI DT hr1 (Zb (pv 2) (Zb Zi Za))))) Za))
  case h19=>exact ZA (i:=9) scLw.nd rfl (Qz rfl)
  case h20=>exact Zv (i:=8) scLw.nd rfl (Qz rfl) (Zz ZB (pv 3) (ZI DT hr1 (Zb (pv 2) (Zb (Zr ZO rfl T.len QM (Zb (pv 3) Za)) Za))) (fun _ _=>rfl))
  case h21=>exact ZnG (PW.pt (VW (ZL Yx (ZI DT hr1 (Zb (pv 2) (Zb Zi Za))) Zi (ZJ _)) (UY (ZL (Zan (K:=K) rfl hr.units) (Xm (YL hr) (pv 6) (pv 8) (fun _ _=>rfl)) (ZX Za) (ZJ _)))))
  case h22=>exact Wn (XS (ZI DBR hr (Zb (pv 4) (Zb (pv 6) (Zb (pv 7) (Zb (pv 8) Za))))))
  case h23=>exact Zq YV
  case h24=>exact ZnY (i:=10) (j:=11) rfl scLw.nd rfl rfl (by decide) rfl rfl (Zb (ZI DVo hr (Zb (pv 6) (Zb (pv 8) Za))) (Zb (ZI DV hr (Zb (pv 2) Za)) Za)) rfl
  case h25=>exact ZL UC (Zr (YU hr.gd hr.units) rfl T.repr (by decide +kernel) (Zb (ZH DH_set_to TH.cl hr (pv 4) (Zb (pv 8) (Zb (pv 11) Za))) Za)) (YN Zik rfl T.str (by decide +kernel) (Zb (Zr ZO rfl T.len QM (Zb (pv 7) Za)) Za)) (ZJ _)
  case h26=>exact Zq YV
  case h27=>exact ZU (YS QB QJ QK Ys (Xm (YL hr) (pv 6) (pv 8) (fun _ _=>rfl)) (Zb (Yi (Zb (Zr ZO rfl T.len QM (Zb (pv 7) Za)) (Zb (pv 11) (Zb (pv 10) Za)))) Za))
  case h28=>exact ZU (YS QB QJ QK Ys (pv 7) (Zb (Yi (Zb Zi (Zb (pv 8) (Zb (pv 10) (Zb YV Za))))) Za))
  case h29=>exact PW.pt (VW (ZL Yx (Zx XU (pv 9) Zi) Zi (ZJ _)) (UY (Wn (XS (ZI DSR hr (Zb (pv 4) (Zb (pv 5) (Zb (pv 6) (Zb (pv 7) Za)))))))))
  case h30=>exact Zq YV
  case h31=>exact fun _=>rfl
  case h32=>exact Zv (i:=12) scLw.nd rfl (Qz rfl) (YN Uk rfl T.list (by decide +kernel) (Zb (pv 3) Za))
  case h33=>exact Gi
  case h34=>exact rfl
  case h35=>exact Zao (pv 3)
  case h36=>exact ZA (i:=8) scLw.nd rfl (Qz rfl)
  case h37=>exact ZU (YS QB PySem.F.slot_list_extend PySem.F.type_list_extend ZhP (pv 12) (Zb (Zx ZnC (ZX (Zb (pv 8) Za)) (Zx We (Zr ZO rfl T.len QM (Zb (Xm (YL hr) (pv 6) (pv 8) (fun _ _=>rfl)) Za)) (ZI DT hr1 (Zb (pv 2) (Zb Zi Za))))) Za))
  case h38=>exact fun _=>rfl
  case h39=>exact Gi
  case h40=>exact ZL (Zan (K:=K) rfl hr.units) (pv 12) (ZX Za) (ZJ _)
  case h41=>exact Zv (i:=8) scLw.nd rfl (Qz rfl) (YS QB JX Rp ZiZ (pv 12) (Zb (ZI DT hr1 (Zb (pv 2) (Zb (Zr ZO rfl T.len QM (Zb (pv 12) Za)) Za))) Za))
  case h42=>exact PW.pt (VW (ZL (Zan (K:=K) rfl hr.units) (Xm (YL hr) (pv 6) (pv 8) (fun _ _=>rfl)) (ZX Za) (ZJ _)) (UY (Wn (XS (ZI DBR hr (Zb (pv 4) (Zb (pv 6) (Zb (pv 7) (Zb (pv 8) Za)))))))))
  case h43=>exact Zq YV
  case h44=>exact Wn (XS (ZI DSR hr (Zb (pv 4) (Zb (pv 5) (Zb (pv 6) (Zb (pv 7) Za))))))
  case h45=>exact Zq YV
  case h46=>exact fun _=>rfl
  case h47=>exact Zq YV
 try dsimp only [ZQ,Cx.nox]
 refine zs2 ?_
 intro zD zS zN1
 have S:=ZgE (q:=qS) hS hL1 hL2 hLn
 clear hL1 hL2
 refine ⟨_,rfl,a,_,rfl,.inl hS,_,_,rfl,_,_,rfl,rfl,?_⟩
 rw [length_map]
 generalize hm:(1:Int)+(if ((ns.length:Nat):Int) < 2 then ((ns.length:Nat):Int) else 2)=m
 have hm9:0<=m/\m<=9:=by rw [<- hm];split<;>omega
 refine ⟨m,congrArg (fun z=>[V.int z]) hm,by omega,by omega,?_⟩
 refine Uy (fun i σ H'=>∃ x1 x2 x3 x4 x5 x6 x7 x8 x9 x10 x11 x12,σ=[some (.ref a),x1,x2,x3,x4,x5,x6,x7,x8,x9,x10,x11,x12]/\Sep [(Pl,YJ),(Pq,WS qS),(a,ScR K ns)] H') ⟨_,_,_,_,_,_,_,_,_,_,_,_,rfl,S⟩ ?_ (fun σ H' _=>q H')
 rintro i0 σ H0 hi0' ⟨x1,x2,x3,x4,x5,x6,x7,x8,x9,x10,x11,x12,rfl,S0⟩
 refine zs9 ?_
 intro zD zS zN8 zN7 zN6 zN5 zN4 zN3 zN2 zN1
 refine ⟨_,rfl,_,rfl,a,ns,_,_,rfl,S0.get a,S0,by omega,by omega,fun p H1 s1 S1=>?_⟩
 refine ⟨_,rfl,_,rfl,p,_,6,_,rfl,S1,by omega,by decide,by decide,fun r1 H2 a0 a1 S2=>⟨_,_,rfl,rfl,p,_,1+r1,_,rfl,S2,by omega,by omega,by omega,fun nl H3 xs S3 hxl hxn hxd=>?_⟩⟩
 have hxl:(xs.length:Int)=1+r1:=by rw [hxl];omega
 have N:Yq xs:=ZpC (by omega) hxn
 intro h dx hh hdx hne
 refine ⟨h,dx,_,_,rfl,rfl,hh,hdx,hne,S3,fun H4 S4=>⟨rfl,fun dd hdd dr hdr=>⟨(by show 0<=Qi;decide),fun fl hfl=>⟨(by show 4<=Qi;decide),fun t0 ht0=>?_⟩⟩⟩⟩
 generalize hE:upd (upd (upd (upd H4 dd _) dr _) fl _) t0 _=H5
 have S5':=(((S4.new hdd _).new hdr _).new hfl _).newE ht0 hE
 clear hE
 refine ⟨t0,_,rfl,SqT.of (S5'.get t0),rfl,_,_,rfl,_,_,rfl,_,_,rfl,_,_,rfl,rfl,?_⟩
 have S5:Sep (UX K CH CR CS CT Pl Pq p h dd dr fl nl a ns xs [] [] (hsQ []) [] (0+1+20)) H5:=by
  have Z:=(((S5'.drop t0).say fl (TL (facs [] [])) fun hp z=>⟨[],z,rfl,fun i _ _ e _=>by cases e⟩).say dr (Wi [] (Xw [])) fun hp z=>⟨[],rfl,rfl,hp,fun _ _ e=>e,z,trivial⟩)
  exact (((((((Z.pull nl).pull fl).pull dr).pull dd).pull Pq).pull Pl).pull h).pull p
 clear S5'
 refine ⟨_,rfl,nl,rfl,⟨_,SqL.of (S5.get nl)⟩,?_⟩
 refine ZdO (K:=K) (xs:=xs.map V.str) (fun i σ H'=>∃ y8 y9 y10 y11 y12 qs n,σ=[some (.ref a),some (.int (0+(i0:Int))),some (.ref p),some (.ref nl),some (.ref h),some (.ref dd),some (.ref dr),some (.ref fl),y8,y9,y10,y11,y12]/\i<=xs.length/\qs.map (·.1)=xs.take i/\(∀ q∈qs,Ym q.2)/\n<=30+60 * i/\Sep (UX K CH CR CS CT Pl Pq p h dd dr fl nl a ns xs (xs.take i) qs (hsQ qs) (Qy i []) n) H') ⟨_,_,_,_,_,[],_,rfl,QC _,rfl,(fun _ z=>nomatch z),by omega,S5⟩ ?_ ?_ ?_
 ·rintro i σ H' _ ⟨_,_,_,_,_,_,_,rfl,_,_,_,_,S'⟩;exact SqL.of (S'.get nl)
 ·rintro i v0 σ H6 hv0 ⟨y8,y9,y10,y11,y12,qs,n,rfl,hil,hqn,hqv,hn,S6⟩
  rw [getElem?_map] at hv0
  obtain ⟨x,hx,rfl⟩:=QR.mp hv0
  have hi:=(Qf.mp hx).1
  have hql:qs.length=i:=by have:=congrArg TZ hqn;rw [length_map,length_take] at this;omega
  have hxk:x ∉ xs.take i:=fun m=>by
   obtain ⟨j,hj,e⟩:=List.mem_take_iff_getElem.mp m
   obtain ⟨h1,h2⟩:=Qf.mp hx
   exact (JN.mp hxd) j i (by omega) h1 (by omega) (e.trans h2.symm)
  have hxq:x ∉ qs.map (·.1):=by rw [hqn];exact hxk
  refine ⟨fun σ' H'=>∃ v n',σ'=[some (.ref a),some (.int (0+(i0:Int))),some (.ref p),some (.ref nl),some (.ref h),some (.ref dd),some (.ref dr),some (.ref fl),some (.str x),y9,y10,y11,y12]/\Ym v/\n'<=n+60/\Sep (UX K CH CR CS CT Pl Pq p h dd dr fl nl a ns xs (xs.take i) (qs++[(x,v)]) (hsQ qs) (Qy i []) n') H',?_,?_⟩
  ·have fin:∀ {H7:Hp} {n':Nat} {v:V},Sep (UX K CH CR CS CT Pl Pq p h dd dr fl nl a ns xs (xs.take i) qs (hsQ qs) (Qy i []) n') H7->H7 dd=some (.dK (Yf qs))/\(Yf qs).length < Qi/\Sep (UX K CH CR CS CT Pl Pq p h dd dr fl nl a ns xs (xs.take i) (qs++[(x,v)]) (hsQ qs) (Qy i []) n') (upd H7 dd (.dK (Yp (Yf qs) (Qu x) v))):=fun {H7 n' v} S7=>by
    refine ⟨S7.get dd,YG (show _<=1000 by unfold Yf;rw [length_map];omega),?_⟩
    have S8:=S7.put dd (.dK (Yp (Yf qs) (Qu x) v))
    rw [Zco hxq] at S8 ⊢
    exact ((((S8.pull Pq).pull Pl).pull h).pull p)
   refine ⟨_,rfl,p,_,2,_,rfl,S6,by omega,by decide,by decide,fun r2 H7 b0 b1 S7=>⟨rfl,_,rfl,XJ (fun c=>?_) (fun c=>?_)⟩⟩
   ·obtain ⟨f1,f2,f3⟩:=fin (v:=.non) S7
    exact ⟨_,rfl,_,rfl,dd,_,rfl,.inl ⟨_,Qu x,f1,rfl,f2,rfl⟩,.non,_,rfl,.inl rfl,by omega,f3⟩
   ·refine ⟨_,rfl,p,_,_,rfl,S7,by omega,fun v H8 hv S8=>?_⟩
    obtain ⟨f1,f2,f3⟩:=fin (v:=v) S8
    exact ⟨_,rfl,_,rfl,dd,_,rfl,.inl ⟨_,Qu x,f1,rfl,f2,rfl⟩,v,_,rfl,.inr hv,by omega,f3⟩
  clear S6
  rintro σ H6 ⟨v,n',rfl,hv,hn',S6⟩
  refine zs2 ?_
  intro zD zS zN1
  obtain ⟨d0,r0,sp0,i0',t0',Sh⟩:=S6.get h
  obtain ⟨dx0,ob0⟩:=Sh.get h
  have hnd:((qs++[(x,v)]).map (·.1)).Nodup:=by
   rw [map_append,hqn,Pp]
   exact ⟨hxd.sublist (OV _ _),by simp,fun z hz u hu=>by rw [mem_singleton.mp hu];intro e;have e:z=x:=e;rw [e] at hz;exact hxk hz⟩
  have hg:DGet H6 dd (.str x) (some v):=by have z:=DGet.k (k:=Qu x) (S6.get dd);rw [Ue (x:=x) (v:=v) hnd (by simp)] at z;exact z
  refine ⟨_,rfl,h,dx0,_,rfl,ob0,Yg (by decide +kernel),_,rfl,_,rfl,_,rfl,dd,_,rfl,hg,h,hsQ qs,qs,x,v,_,rfl,S6.pull h,rfl,by omega,hxq,fun H7 S7=>?_⟩
  refine ⟨(by show 0<=Qi;decide),fun l hl0=>?_⟩
  obtain ⟨kvs,k1,k2,k3⟩:=(S7.pull dr).dtlNew (x:=x) hxk hl0 rfl
  refine ⟨_,rfl,_,rfl,dr,_,rfl,.inl ⟨_,Qu x,k2,rfl,YG (show _<=1000 by rw [k1,length_take];omega),rfl⟩,?_⟩
  have S8:=k3 _ rfl
  refine ⟨_,_,_,_,_,qs++[(x,v)],n',rfl,hi,?_,fun z hz=>?_,by omega,?_⟩
  ·rw [map_append,hqn,take_add_one,hx];rfl
  ·rcases mem_append.mp hz with hz | hz
   ·exact hqv z hz
   ·rw [mem_singleton.mp hz];exact hv
  ·rw [take_add_one,hx,List.replicate_succ']
   rw [show Xw (Qy i ([]:List Row))++[[]]=Xw (Qy i []++[[]]) by unfold Xw;rw [map_append];rfl] at S8
   exact ((((S8.pull dd).pull Pq).pull Pl).pull h).pull p
 rintro σ H6 ⟨y8,y9,y10,y11,y12,qs,n,rfl,_,hqn,hqv,hn,S6⟩
 rw [length_map,JL] at hqn S6
 rw [length_map] at hn
 have W0:=wi0 N hqn hxd hxn hqv
 have hx6:xs.length<=6:=by omega
 have hx1:1<=xs.length:=by omega
 refine ⟨fun J H'=>∃ (m n':Nat),J=Itr 0 m/\m<=100/\n'<=500/\Sep (UX K CH CR CS CT Pl Pq p h dd dr fl nl a ns xs xs qs (hsQ qs) (Qy xs.length []) n') H',?_,?_⟩
 ·refine ⟨_,rfl,p,_,3,_,rfl,S6,by omega,by decide,by decide,fun r2 H7 b0 b1 S7=>⟨rfl,_,rfl,XJ (fun c=>?_) (fun c=>?_)⟩⟩
  ·exact ⟨100,rfl,by decide,by decide,100,_,rfl,by decide,by omega,S7⟩
  ·exact ⟨_,rfl,p,_,20,_,rfl,S7,by omega,by decide,by decide,fun r3 H8 d0 d1 S8=>⟨_,_,rfl,rfl,1+r3,rfl,by omega,by omega,(1+r3).toNat,_,rfl,by omega,by omega,S8⟩⟩
 clear S6 S5
 rintro J H6 ⟨m,n0,rfl,hm100,hn0,S6⟩
 refine Uy (fun i σ H'=>∃ y8 y9 y10 y11 y12 s p' G ops n,σ=[some (.ref a),some (.int (0+(i0:Int))),some (.ref p),some (.ref nl),some (.ref h),some (.ref dd),some (.ref dr),some (.ref fl),y8,y9,y10,y11,y12]/\WI xs qs s p' G ops/\Gn s i/\s.fds.length<=i/\n<=500+100 * i/\Sep (UX K CH CR CS CT Pl Pq p h dd dr fl nl a ns xs xs qs s ops n) H') ⟨_,_,_,_,_,hsQ qs,0,_,_,n0,rfl,W0,⟨QC _,Qh _,Qh _⟩,Qh _,by omega,S6⟩ ?_ ?_
 ·rintro i σ H7 hi ⟨y8,y9,y10,y11,y12,s,p',G,ops,n,rfl,W,gn,hfi,hn,S7⟩
  refine ⟨fun σ' H'=>∃ (j:Nat) (x:Str) (n':Nat),σ'=[some (.ref a),some (.int (0+(i0:Int))),some (.ref p),some (.ref nl),some (.ref h),some (.ref dd),some (.ref dr),some (.ref fl),some (.str x),some (.int (0+(i:Int))),y10,y11,y12]/\xs[j]?=some x/\n'<=n+1/\Sep (UX K CH CR CS CT Pl Pq p h dd dr fl nl a ns xs xs qs s ops n') H',?_,?_⟩
  ·refine ⟨_,rfl,_,rfl,_,rfl,nl,_,rfl,.inl (SqL.of (S7.get nl)),p,_,_,_,rfl,S7,by omega,by rw [length_map];omega,by rw [length_map];omega,fun r2 H8 c0 c1 S8=>?_⟩
   rw [length_map] at c1
   obtain ⟨kk,rfl⟩:∃ z:Nat,r2=(z:Int):=⟨r2.toNat,by omega⟩
   obtain ⟨x,hx⟩:∃ x,xs[kk]?=some x:=⟨_,getElem?_eq_getElem (by omega)⟩
   exact ⟨nl,_,_,_,rfl,rfl,SqL.of (S8.get nl),ZE (show (xs.map V.str)[kk]?=some (.str x) by rw [getElem?_map,hx];rfl),kk,x,_,rfl,hx,by omega,S8⟩
  clear S7
  rintro σ H7 ⟨j,x,n1,rfl,hx,hn1,S7⟩
  obtain ⟨rs,ho⟩:∃ rs,ops[j]?=some rs:=⟨_,getElem?_eq_getElem (by rw [W.ol];exact (Qf.mp hx).1)⟩
  have hxm:=mem_of_getElem? hx
  refine ⟨fun σ' H'=>∃ y10 y11 s p' G ops n',σ'=[some (.ref a),some (.int (0+(i0:Int))),some (.ref p),some (.ref nl),some (.ref h),some (.ref dd),some (.ref dr),some (.ref fl),some (.str x),some (.int (0+(i:Int))),y10,y11,y12]/\WI xs qs s p' G ops/\Gn s (i+1)/\s.fds.length<=i+1/\n'<=n1+60/\Sep (UX K CH CR CS CT Pl Pq p h dd dr fl nl a ns xs xs qs s ops n') H',?_,?_⟩
  ·refine ⟨fun b H'=>∃ n',(b=true->rs≠[])/\n'<=n1+1/\Sep (UX K CH CR CS CT Pl Pq p h dd dr fl nl a ns xs xs qs s ops n') H',?_,?_⟩
   ·refine ⟨_,rfl,p,_,3,_,rfl,S7,by omega,by decide,by decide,fun r2 H8 b0 b1 S8=>⟨rfl,_,rfl,XJ (fun c=>?_) (fun c=>?_)⟩⟩
    ·obtain ⟨al,kvs,Γ,hval,S9,back⟩:=(S8.pull dr).dtl W.nd hx (tss:=rs.map Row.vs) (by rw [getElem?_map,ho];rfl)
     obtain ⟨as,el,hs⟩:=S9.get al
     have hnv:∀ ts∈rs.map Row.vs,∀ v∈ts,Ym v:=fun ts hts=>by
      obtain ⟨r,hr,rfl⟩:=mem_map.mp hts
      exact Zec (W.rows hx ho r hr)
     have hg:DGet H8 dr (.str x) (some (.ref al)):=by have z:=DGet.k (k:=Qu x) (S9.get dr);rw [hval] at z;exact z
     obtain ⟨z1,z2⟩:=Zak hnv
     refine ⟨_,rfl,_,rfl,dr,_,rfl,hg,(by show 0<=Qi;decide),fun e0 he0=>?_⟩
     have w1:=Zk he0 (.lst [])
     refine ⟨al,e0,_,_,rfl,rfl,w1 _ _ el,Vq (hs.up w1) hnv,z1,z2,Zf,_,rfl,_,?_,Qh _,S8.mono w1⟩
     intro c2 z
     rw [z] at hs
     have:as=[]:=length_eq_zero_iff.mp hs.1
     rw [this] at c2;cases c2
    ·exact ⟨_,(fun z=>by cases z),Qh _,S8⟩
   clear S7
   rintro b H8 ⟨n2,hb,hn2,S8⟩
   refine XJ (fun c=>?_) (fun c=>?_)
   ·obtain ⟨ys,r,rfl⟩:∃ ys r,rs=ys++[r]:=by
     rcases Ju rs with z | ⟨ys,r,z⟩
     ·exact absurd z (hb c)
     ·exact ⟨ys,r,by rw [z,Jv]⟩
    refine ⟨_,rfl,_,rfl,_,rfl,_,rfl,h,dr,fl,x,xs,qs,s,p',G,ops,j,ys,r,_,rfl,(((S8.pull fl).pull dr).pull Pl).pull h,W,gn.hb W (by omega),hx,ho,fun H9 s' p2 G' S9 W' g'=>⟨_,rfl,ZP ⟨_,_,s',p2,G',_,n2,rfl,W',gn.up g',by have:=g'.fd;omega,by omega,?_⟩⟩⟩
    exact (((((((S9.pull fl).pull dr).pull dd).pull Pq).pull Pl).pull h).pull p)
   ·
    refine zs4 ?_
    intro zD zS zN3 zN2 zN1
    refine ⟨_,rfl,_,rfl,dr,xs,ops,j,x,rs,rfl,S8.get dr,W.nd,hx,ho,W.rows hx ho,fun H9 s9=>⟨_,rfl,p,_,_,rfl,S8.mono s9,by omega,fun v H10 hv S10=>⟨_,_,rfl,?_⟩⟩⟩
    clear S8
    obtain ⟨d0,r0,sp0,i0',t0',Sh⟩:=S10.get h
    obtain ⟨dx0,ob0⟩:=Sh.get h
    have hd:(ZD s.dfs (Qu x)).isSome=true:=by
     obtain ⟨z,hz,rfl⟩:=mem_map.mp (show x∈qs.map (·.1) by rw [hqn];exact hxm)
     rw [W.df,Ue (x:=z.1) (v:=z.2) (by rw [hqn];exact hxd) hz];rfl
    refine ⟨_,rfl,h,dx0,_,rfl,ob0,Yg (by decide +kernel),_,rfl,_,rfl,xs,h,s,0,p',x,v,G,_,rfl,(S10.pull Pl).pull h,W.I,gn.hb W (by omega),by rw [W.ins];rfl,by rw [W.sp];rfl,W.env,hxm,hv,hd,fun H11 t' c' nds tabs S11 I11 l1 l2=>?_⟩
    have W':=W.st hx ho hv (by omega) I11
    have hgx:=W.val j x rs hx ho
    rw [hgx] at S11 W'
    have nk:=ZdB (n:=s.fds.length) (by omega)
    have sk:=Zbo nk 0
    have skl:(YE (nI s.fds.length)).shown.length<=sizeLine:=Qn sk.ln (by decide)
    obtain ⟨as,el,hs⟩:=S11.get fl
    have hal:as.length=s.fds.length:=by rw [hs.1,Vj W.fu]
    refine ⟨_,_,rfl,Zce nk,sk.sh,skl,Qn sk.dp (by decide),_,rfl,fl,_,rfl,.inl (SqL.of el),.inl ⟨_,rfl,Zif (by rw [length_map];omega),rfl,_,rfl,?_⟩⟩
    rw [length_map,hal,show (!decide (V.str (YE (nI s.fds.length)).shown=V.str (QA (toString (s.fds.length:Int)))))=false from Zcd _]
    refine ZP ?_
    obtain ⟨al,kvs,Γ,hval,S12,back⟩:=(S11.pull dr).dtl W.nd hx (tss:=rs.map Row.vs) (by rw [getElem?_map,ho];rfl)
    obtain ⟨bs,el2,hs2⟩:=S12.get al
    have hg:DGet H11 dr (.str x) (some (.ref al)):=by have z:=DGet.k (k:=Qu x) (S12.get dr);rw [hval] at z;exact z
    have hrl:rs.length<=s.fds.length:=by
     have:=congrArg TZ (W.tok j x rs hx ho)
     rw [length_map] at this
     rw [<- this]
     exact Qn (length_filter_le _ _) Zcv
    refine ⟨_,rfl,_,rfl,dr,_,rfl,hg,.inl ⟨rfl,_,SqL.of el2⟩,_,rfl,fl,_,rfl,.inl (SqL.of el),_,rfl,_,rfl,(by show 3<=Qi;decide),fun c1 hc1=>?_⟩
    rw [length_map,hal] at *
    have w1:=Zk hc1 (.tup (Row.vs ⟨s.fds.length,v,vL rs⟩))
    have ec1:upd H11 c1 (.tup (Row.vs ⟨s.fds.length,v,vL rs⟩)) c1=some (.tup (Row.vs ⟨s.fds.length,v,vL rs⟩)):=Zf
    refine ⟨al,_,_,rfl,rfl,w1 _ _ el2,YG (show _<=1000 by rw [length_map,hs2.1,length_map];omega),?_⟩
    have S13:=S12.mono w1
    have hs3:=(hs2.up w1).app ec1
    generalize hE:upd (upd H11 c1 _) al _=H13
    have S14:=S13.tlPut hE (as':=bs++[c1]) (by rw [map_append];rfl) hs3
    clear hE
    have S15:=back _ H13 _ S14
    rw [show (Xw ops).set j (rs.map Row.vs++[Row.vs ⟨s.fds.length,v,vL rs⟩])=Xw (ops.set j (rs++[⟨s.fds.length,v,vL rs⟩])) by rw [Xw,Xw,map_set,map_append];rfl] at S15
    clear S14 S13 S12 back hs3 ec1
    obtain ⟨as5,el5,hs5⟩:=S15.get fl
    refine ⟨_,rfl,.inl ⟨rfl,_,SqL.of el5⟩,_,rfl,_,rfl,(by show 4<=Qi;decide),fun c2 hc2=>?_⟩
    have w2:=Zk hc2 (.tup (Xn ⟨0,x,vL rs⟩ true))
    have ec2:upd H13 c2 (.tup (Xn ⟨0,x,vL rs⟩ true)) c2=some (.tup (Xn ⟨0,x,vL rs⟩ true)):=Zf
    refine ⟨fl,_,_,rfl,rfl,w2 _ _ el5,YG (show _<=1000 by rw [length_map,hs5.1,Vj W.fu];omega),?_⟩
    have S16:=S15.mono w2
    have hs6:=(hs5.up w2).app ec2
    rw [<- Zjs _ W.fu] at hs6
    generalize hE:upd (upd H13 c2 _) fl _=H16
    have S17:=S16.tlPut hE (as':=as5++[c2]) (by rw [map_append];rfl) hs6
    clear hE
    refine ⟨_,_,_,_,_,_,n2+50,rfl,W',⟨?_,by have:=gn.nd;show nds.length<=_;omega,by have:=gn.tb;show tabs.length<=_;omega⟩,?_,by omega,?_⟩
    ·show (s.pls++[_]).length<=_
     have:=gn.pl
     rw [length_append,length_singleton];omega
    ·show (s.fds++[_]).length<=_
     rw [length_append,length_singleton];omega
    ·exact ((((((S17.pull dr).pull dd).pull Pq).pull Pl).pull h).pull p)
  clear W gn hfi S7 ho
  rintro σ H7 ⟨y10,y11,s,p',G,ops,n1',rfl,W,gn,hfi,hn1',S7⟩
  refine ⟨_,rfl,_,_,rfl,rfl,(show (0:Int) < 11 by decide),rfl,_,rfl,XJ (fun c=>?_) (fun c=>?_)⟩
  ·refine ⟨_,rfl,_,rfl,_,rfl,_,rfl,h,dd,dr,fl,xs,qs,s,p',G,ops,_,rfl,((((S7.pull fl).pull dr).pull dd).pull h).pull Pq,W,fun H8 S8=>⟨_,rfl,ZP ⟨_,_,_,_,_,s,p',G,ops,n1',rfl,W,gn,hfi,by omega,?_⟩⟩⟩
   exact ((((((S8.pull fl).pull dr).pull dd).pull Pq).pull Pl).pull h).pull p
  ·exact ZP ⟨_,_,_,_,_,s,p',G,ops,n1',rfl,W,gn,hfi,by omega,S7⟩
 rintro σ H7 ⟨y8,y9,y10,y11,y12,s,p',G,ops,n,rfl,W,gn,hfi,hn,S7⟩
 refine ⟨_,rfl,nl,_,rfl,.inl (SqL.of (S7.get nl)),fun lf hlf=>?_⟩
 have S8:=S7.new hlf (.lst (xs.map V.str))
 have rl:∀ {j:Nat} {x:Str} {rs:List Row},xs[j]?=some x->ops[j]?=some rs->rs.length<=100:=fun {j x rs} hx ho=>by
  have:=congrArg TZ (W.tok j x rs hx ho)
  rw [length_map] at this
  rw [<- this]
  exact Qn (length_filter_le _ _) (Qn Zcv (by omega))
 refine ⟨_,rfl,nl,rfl,⟨_,SqL.of (S8.get nl)⟩,?_⟩
 refine ZdO (K:=K) (xs:=xs.map V.str) (fun i σ H'=>∃ y8 n' ls,σ=[some (.ref a),some (.int (0+(i0:Int))),some (.ref p),some (.ref nl),some (.ref h),some (.ref dd),some (.ref dr),some (.ref fl),y8,y9,y10,y11,some (.ref lf)]/\(∀ y∈ls,y∈xs)/\ls.length<=6+100 * i/\n'<=n+i/\Sep ((lf,Yj (ls.map V.str))::UX K CH CR CS CT Pl Pq p h dd dr fl nl a ns xs xs qs s ops n') H') ⟨_,n,xs,rfl,(fun _ z=>z),by omega,Qh _,S8⟩ ?_ ?_ ?_
 ·rintro i σ H' _ ⟨_,_,_,rfl,_,_,_,S'⟩;exact SqL.of (S'.get nl)
 ·rintro i v0 σ H9 hv0 ⟨y8,n',ls,rfl,hls,hll,hn',S9⟩
  rw [getElem?_map] at hv0
  obtain ⟨x,hx,rfl⟩:=QR.mp hv0
  have hi:=(Qf.mp hx).1
  obtain ⟨rs,ho⟩:∃ rs,ops[i]?=some rs:=⟨_,getElem?_eq_getElem (by rw [W.ol];exact hi)⟩
  have hrl:=rl hx ho
  refine ⟨_,rfl,.inl ⟨rfl,_,SqL.of (S9.get lf)⟩,_,rfl,(by show 1<=Qi;decide),fun l1 hl1=>?_⟩
  have S10:=S9.new hl1 (.lst [.str x])
  generalize upd H9 l1 (.lst [.str x])=H10 at S10 ⊢
  obtain ⟨al,kvs,Γ,hval,S11,_⟩:=(S10.pull dr).dtl W.nd hx (tss:=rs.map Row.vs) (by rw [getElem?_map,ho];rfl)
  obtain ⟨as,el,hs⟩:=S11.get al
  have hal:as.length=rs.length:=by rw [hs.1,length_map]
  have hg:DGet H10 dr (.str x) (some (.ref al)):=by have z:=DGet.k (k:=Qu x) (S11.get dr);rw [hval] at z;exact z
  clear S11
  refine ⟨_,rfl,_,rfl,dr,_,rfl,hg,al,_,rfl,.inl (SqL.of el),_,rfl,p,_,2,_,rfl,S10.pull p,by omega,by decide,by decide,fun r2 H11 b0 b1 S11=>?_⟩
  rw [length_map,hal]
  obtain ⟨kk,hk1,hk2⟩:∃ kk:Nat,(rs.length:Int) * r2=(kk:Int)/\kk<=100:=by
   rcases (show r2=0\/r2=1 by omega) with rfl | rfl
   ·exact ⟨0,by simp,by decide⟩
   ·exact ⟨rs.length,by simp,hrl⟩
  refine ⟨_,_,rfl,rfl,.inl ⟨by omega,by omega⟩,?_⟩
  dsimp only
  rw [hk1]
  refine ⟨l1,_,_,rfl,rfl,S11.get l1,by omega,by omega,Xl (show _<=1000 by show 1 * _<=_;omega),fun l2 hl2=>?_⟩
  have S12:=S11.new hl2 (.lst (Qy ((kk:Int)).toNat [V.str x]).flatten)
  have hrep:(Qy ((kk:Int)).toNat [V.str x]).flatten=(Qy kk x).map V.str:=by
   rw [show ((kk:Int)).toNat=kk by omega,List.map_replicate]
   clear hk1 hk2 S12 hl2
   induction kk with
   | zero=>rfl
   | succ k ih=>rw [replicate_succ,Jx,ih,replicate_succ];rfl
  rw [hrep] at S12 ⊢
  refine ⟨lf,l2,_,_,rfl,rfl,S12.get lf,S12.get l2,Xl (show _<=1000 by rw [length_map,length_map,length_replicate];omega),?_⟩
  have S13:=S12.put lf (.lst (ls.map V.str++(Qy kk x).map V.str))
  rw [<- map_append] at S13 ⊢
  refine ⟨_,n'+1,ls++Qy kk x,rfl,fun y hy=>?_,by rw [length_append,length_replicate];omega,by omega,?_⟩
  ·rcases mem_append.mp hy with hy | hy
   ·exact hls y hy
   ·rw [JR hy];exact mem_of_getElem? hx
  ·have Z:=(S13.drop l2).drop l1
   exact ((((((((Z.pull nl).pull fl).pull dr).pull dd).pull Pq).pull Pl).pull h).pull p).pull lf
 rintro σ H9 ⟨y8,n',ls,rfl,hls,hll,hn',S9⟩
 rw [length_map] at hll hn'
 obtain ⟨c0,hc0,hll⟩:∃ c0:Nat,c0=0/\ls.length+c0<=606:=⟨0,rfl,by omega⟩
 have gn0:Gn s (100+c0):=⟨by have:=gn.pl;omega,by have:=gn.nd;omega,by have:=gn.tb;omega⟩
 have hn9:n'<=12000+c0:=by omega
 clear rl
 refine ⟨fun m σ H'=>∃ y8 n' ls s p' G ops c,m=ls.length/\σ=[some (.ref a),some (.int (0+(i0:Int))),some (.ref p),some (.ref nl),some (.ref h),some (.ref dd),some (.ref dr),some (.ref fl),y8,y9,y10,y11,some (.ref lf)]/\(∀ y∈ls,y∈xs)/\ls.length+c<=606/\WI xs qs s p' G ops/\Gn s (100+c)/\n'<=12000+c/\Sep ((lf,Yj (ls.map V.str))::UX K CH CR CS CT Pl Pq p h dd dr fl nl a ns xs xs qs s ops n') H',⟨_,_,n',ls,s,p',G,ops,c0,rfl,rfl,hls,hll,W,gn0,hn9,S9⟩,?_⟩
 clear S9 hls hll hn' hn9 gn0 W gn hfi hc0 S8 S7
 rintro m σ H9 ⟨y8,n',ls,s,p',G,ops,c0,rfl,rfl,hls,hll,W,gn,hn',S9⟩
 have hnv:∀ v∈ls.map V.str,Ym v:=fun v hv=>by
  obtain ⟨y,hy,rfl⟩:=mem_map.mp hv
  exact Zap (hxn y (hls y hy))
 obtain ⟨z1,z2⟩:=ZaL hnv
 refine ⟨_,rfl,(by show 0<=Qi;decide),fun e0 he0=>?_⟩
 have S10:=S9.mono (Zk he0 (.lst []))
 refine ⟨lf,e0,_,_,rfl,rfl,S10.get lf,VZ hnv,z1,by rw [z2];decide,Zf,_,rfl,XJ (fun c=>?_) (fun c=>?_)⟩
 ·have hl0:0 < ls.length:=by
   cases ls with
   | nil=>cases c
   | cons _ _=>exact Nat.succ_pos _
  refine ⟨_,fun σ' H2 h=>h,?_⟩
  generalize upd H9 e0 (.lst [])=H10 at S10 ⊢
  clear S9
  refine ⟨fun σ' H'=>∃ (x:Str) (n2:Nat) (ls':List Str),σ'=[some (.ref a),some (.int (0+(i0:Int))),some (.ref p),some (.ref nl),some (.ref h),some (.ref dd),some (.ref dr),some (.ref fl),some (.str x),y9,y10,y11,some (.ref lf)]/\x∈xs/\(∀ y∈ls',y∈xs)/\ls'.length+1=ls.length/\n2<=n'+1/\Sep ((lf,Yj (ls'.map V.str))::UX K CH CR CS CT Pl Pq p h dd dr fl nl a ns xs xs qs s ops n2) H',?_,?_⟩
  ·refine ⟨_,rfl,.inl ⟨rfl,_,SqL.of (S10.get lf)⟩,_,rfl,_,rfl,lf,_,rfl,.inl (SqL.of (S10.get lf)),p,_,_,_,rfl,S10.pull p,by omega,by rw [length_map];omega,by rw [length_map];omega,fun r2 H11 b0 b1 S11=>?_⟩
   rw [length_map] at b1
   obtain ⟨kk,rfl⟩:∃ z:Nat,r2=(z:Int):=⟨r2.toNat,by omega⟩
   obtain ⟨x,hx⟩:∃ x,ls[kk]?=some x:=⟨_,getElem?_eq_getElem (by omega)⟩
   refine ⟨lf,_,_,kk,.str x,rfl,rfl,S11.get lf,by omega,by omega,?_,by rw [getElem?_map,hx];rfl,?_⟩
   ·rw [length_map];exact Zmz (by omega)
   ·have S12:=S11.put lf (.lst ((ls.map V.str).eraseIdx kk))
    rw [show (ls.map V.str).eraseIdx kk=(ls.eraseIdx kk).map V.str from ZcU _ _ _] at S12 ⊢
    refine ⟨x,_,ls.eraseIdx kk,rfl,hls x (mem_of_getElem? hx),fun y hy=>hls y (List.mem_of_mem_eraseIdx hy),?_,Qh _,(S12.pull p).pull lf⟩
    rw [List.length_eraseIdx_of_lt (Qf.mp hx).1];omega
  clear S10
  rintro σ H10 ⟨x,n2,ls',rfl,hxm,hls',hl',hn2,S10⟩
  obtain ⟨j,hx⟩:=GR.mp hxm
  obtain ⟨rs,ho⟩:∃ rs,ops[j]?=some rs:=⟨_,getElem?_eq_getElem (by rw [W.ol];exact (Qf.mp hx).1)⟩
  obtain ⟨al,kvs,Γ,hval,S11,_⟩:=(S10.pull dr).dtl W.nd hx (tss:=rs.map Row.vs) (by rw [getElem?_map,ho];rfl)
  obtain ⟨as,el,hs⟩:=S11.get al
  have hnv:∀ ts∈rs.map Row.vs,∀ v∈ts,Ym v:=fun ts hts=>by
   obtain ⟨r,hr,rfl⟩:=mem_map.mp hts
   exact Zec (W.rows hx ho r hr)
  have hg:DGet H10 dr (.str x) (some (.ref al)):=by have z:=DGet.k (k:=Qu x) (S11.get dr);rw [hval] at z;exact z
  obtain ⟨z1,z2⟩:=Zak hnv
  refine ⟨_,rfl,_,rfl,dr,_,rfl,hg,(by show 0<=Qi;decide),fun e1 he1=>?_⟩
  have w1:=Zk he1 (.lst [])
  have S12:=S10.mono w1
  refine ⟨al,e1,_,_,rfl,rfl,w1 _ _ el,Vq (hs.up w1) hnv,z1,z2,Zf,_,rfl,XJ (fun c=>?_) (fun c=>?_)⟩
  ·obtain ⟨ys,r,rfl⟩:∃ ys r,rs=ys++[r]:=by
    rcases Ju rs with z | ⟨ys,r,z⟩
    ·rw [z] at hs
     have:as=[]:=length_eq_zero_iff.mp hs.1
     rw [this] at c;cases c
    ·exact ⟨ys,r,by rw [z,Jv]⟩
   refine ⟨_,rfl,_,rfl,_,rfl,_,rfl,h,dr,fl,x,xs,qs,s,p',G,ops,j,ys,r,_,rfl,(((S12.pull fl).pull dr).pull Pl).pull h,W,gn.hb W (by omega),hx,ho,fun H13 s' p2 G' S13 W' g'=>⟨_,rfl,ZP ⟨ls'.length,by omega,_,n2,ls',s',p2,G',_,c0+1,rfl,rfl,hls',by omega,W',gn.up g',by omega,?_⟩⟩⟩
   exact ((((((((S13.pull fl).pull dr).pull dd).pull Pq).pull Pl).pull h).pull p).pull lf)
  ·exact ZP ⟨ls'.length,by omega,_,n2,ls',s,p',G,ops,c0+1,rfl,rfl,hls',by omega,W,⟨by have:=gn.pl;omega,by have:=gn.nd;omega,by have:=gn.tb;omega⟩,by omega,S12⟩
 ·refine ⟨_,rfl,_,rfl,_,rfl,_,rfl,h,dd,dr,fl,xs,qs,s,p',G,ops,_,rfl,((((S10.pull fl).pull dr).pull dd).pull h).pull Pq,W,fun H11 S11=>⟨_,rfl,ZP ⟨_,_,_,_,_,_,_,_,_,_,_,_,rfl,?_⟩⟩⟩
  exact (((((((S11.drop fl).drop dr).drop dd).drop h).drop nl).drop lf).drop p).pull Pl
end
section
variable {P:Qk}{w:Qv}{K:Qa}{mg:Str->Option Qb}{base:Heap}
theorem scXi:Zm ["self","what"] ["self","what"] (Zj c_RoadError___init__):=⟨rfl,rfl,rfl,by decide +kernel,rfl,by decide +kernel,by decide +kernel⟩
theorem ZaP {f:Addr}{fd:Qm}(F:Fun K "__init__" "RoadError.__init__" c_RoadError___init__ f fd):FnOk P w K mg base ZC 1 f fd ["self","what"] (ZjJ K):=by
 refine F.ok scXi (fun vs H Q E h=>?_) (fun cdv A outer s H vs Q E hr h=>?_)
 ·obtain ⟨ea,C,fI,v,rfl,_⟩:=h;rfl
 obtain ⟨ea,C,fI,v,rfl,hea,xf,q⟩:=h
 refine' ⟨?t,?h,?r⟩
 case h =>
  conv=>arg 2;whnf
  with_reducible refine' (Zh ?h1)
  case h1=>exact ZkP (pv 0) (pv 1) rfl
 exact ⟨_,rfl,_,rfl,ea,C,fI,rfl,hea,xf,fun dx h1 h2=>q dx h1 h2⟩
end
end K36
namespace K36
open PySem L2
open PySem.W in
theorem all_mk {l:Ri}{w:Qv}{K:Qa}{h:Heap}{mg:Str->Option Qb}{fa:Addr}
 {f_z0 f_z1 f_z2 f_z3 f_z4 f_z5 f_z6 f_z7 f_z8 f_z9 f_z10 f_z11 f_z12 f_z13 f_z14 f_z15 f_z16 f_z17 f_z18 f_z19 f_z20 f_z21 f_z22 f_z23 f_z24 f_z25 f_z26 f_z27 f_z28 f_z29 f_z30 f_z31 f_z32 f_z33 f_z34 f_z35 f_z36 f_z37 f_z38 f_z39 f_z40 f_z41 f_z42 f_z43 f_z44 f_z45 f_z46 f_z47 f_z48 f_z49 f_z50 f_z51 f_z52 f_z53 f_z54 f_z55 f_z56 f_z57 f_z58 f_z59 f_z60 f_z61 f_z62 f_z63 C_Store C_Roads C_Tokens C_Hall C_RoadError C_Known C_NoSetting C_Missing C_NoWorld C_Busy C_AtHome C_NoToken C_Used C_Elsewhere C_OutOfTurn C_NoTable C_NoNode C_NoPlace C_NotBehind C_NoWatcher C_NoTask C_BadRow ca_z61 ca_z4 P_z61 P_z4:Addr} {d_z0 d_z1 d_z2 d_z3 d_z4 d_z5 d_z6 d_z7 d_z8 d_z9 d_z10 d_z11 d_z12 d_z13 d_z14 d_z15 d_z16 d_z17 d_z18 d_z19 d_z20 d_z21 d_z22 d_z23 d_z24 d_z25 d_z26 d_z27 d_z28 d_z29 d_z30 d_z31 d_z32 d_z33 d_z34 d_z35 d_z36 d_z37 d_z38 d_z39 d_z40 d_z41 d_z42 d_z43 d_z44 d_z45 d_z46 d_z47 d_z48 d_z49 d_z50 d_z51 d_z52 d_z53 d_z54 d_z55 d_z56 d_z57 d_z58 d_z59 d_z60 d_z61 d_z62 d_z63:Qm} (X:K.In h) (G:h.Ns Ql mg) (hfa:mg "law"=some (.ref fa))
 (ch_Store:CH K "Store" C_Store)
 (na_Store_nodes:Qx K (.ref C_Store) "nodes"=some none)
 (na_Store_tables:Qx K (.ref C_Store) "tables"=some none)
 (ch_Roads:CH K "Roads" C_Roads)
 (na_Roads_kept:Qx K (.ref C_Roads) "kept"=some none)
 (na_Roads_aheads:Qx K (.ref C_Roads) "aheads"=some none)
 (na_Roads_steps:Qx K (.ref C_Roads) "steps"=some none)
 (na_Roads_tables:Qx K (.ref C_Roads) "tables"=some none)
 (na_Roads_costs:Qx K (.ref C_Roads) "costs"=some none)
 (ch_Tokens:CH K "Tokens" C_Tokens)
 (na_Tokens_finds:Qx K (.ref C_Tokens) "finds"=some none)
 (na_Tokens_unused:Qx K (.ref C_Tokens) "unused"=some none)
 (ch_Hall:CH K "Hall" C_Hall)
 (na_Hall_defaults:Qx K (.ref C_Hall) "defaults"=some none)
 (na_Hall_ways:Qx K (.ref C_Hall) "ways"=some none)
 (na_Hall_spots:Qx K (.ref C_Hall) "spots"=some none)
 (na_Hall_inside:Qx K (.ref C_Hall) "inside"=some none)
 (na_Hall_held:Qx K (.ref C_Hall) "held"=some none)
 (gx_RoadError:Qr K Ql "RoadError"=some (some (.ref C_RoadError)))
 (gx_Known:Qr K Ql "Known"=some (some (.ref C_Known)))
 (gx_NoSetting:Qr K Ql "NoSetting"=some (some (.ref C_NoSetting)))
 (gx_Missing:Qr K Ql "Missing"=some (some (.ref C_Missing)))
 (gx_NoWorld:Qr K Ql "NoWorld"=some (some (.ref C_NoWorld)))
 (gx_Busy:Qr K Ql "Busy"=some (some (.ref C_Busy)))
 (gx_AtHome:Qr K Ql "AtHome"=some (some (.ref C_AtHome)))
 (gx_NoToken:Qr K Ql "NoToken"=some (some (.ref C_NoToken)))
 (gx_Used:Qr K Ql "Used"=some (some (.ref C_Used)))
 (gx_Elsewhere:Qr K Ql "Elsewhere"=some (some (.ref C_Elsewhere)))
 (gx_OutOfTurn:Qr K Ql "OutOfTurn"=some (some (.ref C_OutOfTurn)))
 (gx_NoTable:Qr K Ql "NoTable"=some (some (.ref C_NoTable)))
 (gx_NoNode:Qr K Ql "NoNode"=some (some (.ref C_NoNode)))
 (gx_NoPlace:Qr K Ql "NoPlace"=some (some (.ref C_NoPlace)))
 (gx_NotBehind:Qr K Ql "NotBehind"=some (some (.ref C_NotBehind)))
 (gx_NoWatcher:Qr K Ql "NoWatcher"=some (some (.ref C_NoWatcher)))
 (gx_NoTask:Qr K Ql "NoTask"=some (some (.ref C_NoTask)))
 (gx_BadRow:Qr K Ql "BadRow"=some (some (.ref C_BadRow)))
 (h_z0:FM K C_RoadError "__init__" "RoadError.__init__" c_RoadError___init__ f_z0 d_z0)
 (h_z1:FG K "alike" s_alike f_z1 d_z1)
 (h_z2:FG K "mark" s_mark f_z2 d_z2)
 (h_z3:FG K "digit" s_digit f_z3 d_z3)
 (h_z4:FGC K "leaf_of" s_leaf_of f_z4 d_z4 ca_z4 P_z4)
 (h_z5:FG K "fork_of" s_fork_of f_z5 d_z5)
 (h_z6:FG K "parts_in" s_parts_in f_z6 d_z6)
 (h_z7:FG K "pairs_in" s_pairs_in f_z7 d_z7)
 (h_z8:FG K "has_mark" s_has_mark f_z8 d_z8)
 (h_z9:FM K C_Store "__init__" "Store.__init__" c_Store___init__ f_z9 d_z9)
 (h_z10:FM K C_Store "empty" "Store.empty" c_Store_empty f_z10 d_z10)
 (h_z11:FM K C_Store "check_table" "Store.check_table" c_Store_check_table f_z11 d_z11)
 (h_z12:FM K C_Store "keep" "Store.keep" c_Store_keep f_z12 d_z12)
 (h_z13:FM K C_Store "as_table" "Store.as_table" c_Store_as_table f_z13 d_z13)
 (h_z14:FM K C_Store "way" "Store.way" c_Store_way f_z14 d_z14)
 (h_z15:FM K C_Store "looked" "Store.looked" c_Store_looked f_z15 d_z15)
 (h_z16:FM K C_Store "fork_parts" "Store.fork_parts" c_Store_fork_parts f_z16 d_z16)
 (h_z17:FM K C_Store "put_in" "Store.put_in" c_Store_put_in f_z17 d_z17)
 (h_z18:FM K C_Store "put" "Store.put" c_Store_put f_z18 d_z18)
 (h_z19:FM K C_Store "taken_from" "Store.taken_from" c_Store_taken_from f_z19 d_z19)
 (h_z20:FM K C_Store "without" "Store.without" c_Store_without f_z20 d_z20)
 (h_z21:FM K C_Store "made" "Store.made" c_Store_made f_z21 d_z21)
 (h_z22:FM K C_Roads "check_place" "Roads.check_place" c_Roads_check_place f_z22 d_z22)
 (h_z23:FM K C_Roads "table" "Roads.table" c_Roads_table f_z23 d_z23)
 (h_z24:FM K C_Roads "looked" "Roads.looked" c_Roads_looked f_z24 d_z24)
 (h_z25:FM K C_Roads "go_on" "Roads.go_on" c_Roads_go_on f_z25 d_z25)
 (h_z26:FM K C_Roads "put" "Roads.put" c_Roads_put f_z26 d_z26)
 (h_z27:FM K C_Roads "clear" "Roads.clear" c_Roads_clear f_z27 d_z27)
 (h_z28:FM K C_Roads "ahead" "Roads.ahead" c_Roads_ahead f_z28 d_z28)
 (h_z29:FM K C_Roads "step" "Roads.step" c_Roads_step f_z29 d_z29)
 (h_z30:FM K C_Roads "__init__" "Roads.__init__" c_Roads___init__ f_z30 d_z30)
 (h_z31:FM K C_Tokens "__init__" "Tokens.__init__" c_Tokens___init__ f_z31 d_z31)
 (h_z32:FM K C_Tokens "make" "Tokens.make" c_Tokens_make f_z32 d_z32)
 (h_z33:FM K C_Tokens "check_token" "Tokens.check_token" c_Tokens_check_token f_z33 d_z33)
 (h_z34:FM K C_Tokens "described" "Tokens.described" c_Tokens_described f_z34 d_z34)
 (h_z35:FM K C_Tokens "use" "Tokens.use" c_Tokens_use f_z35 d_z35)
 (h_z36:FM K C_Tokens "open_in" "Tokens.open_in" c_Tokens_open_in f_z36 d_z36)
 (h_z37:FM K C_Tokens "last_open" "Tokens.last_open" c_Tokens_last_open f_z37 d_z37)
 (h_z38:FM K C_Tokens "check_back" "Tokens.check_back" c_Tokens_check_back f_z38 d_z38)
 (h_z39:FM K C_Hall "check_world" "Hall.check_world" c_Hall_check_world f_z39 d_z39)
 (h_z40:FM K C_Hall "place" "Hall.place" c_Hall_place f_z40 d_z40)
 (h_z41:FM K C_Hall "now" "Hall.now" c_Hall_now f_z41 d_z41)
 (h_z42:FM K C_Hall "check_setting" "Hall.check_setting" c_Hall_check_setting f_z42 d_z42)
 (h_z43:FM K C_Hall "declare" "Hall.declare" c_Hall_declare f_z43 d_z43)
 (h_z44:FM K C_Hall "value_in" "Hall.value_in" c_Hall_value_in f_z44 d_z44)
 (h_z45:FM K C_Hall "value_or_default" "Hall.value_or_default" c_Hall_value_or_default f_z45 d_z45)
 (h_z46:FM K C_Hall "look_in" "Hall.look_in" c_Hall_look_in f_z46 d_z46)
 (h_z47:FM K C_Hall "look" "Hall.look" c_Hall_look f_z47 d_z47)
 (h_z48:FM K C_Hall "set_to" "Hall.set_to" c_Hall_set_to f_z48 d_z48)
 (h_z49:FM K C_Hall "back" "Hall.back" c_Hall_back f_z49 d_z49)
 (h_z50:FM K C_Hall "token" "Hall.token" c_Hall_token f_z50 d_z50)
 (h_z51:FM K C_Hall "roads" "Hall.roads" c_Hall_roads f_z51 d_z51)
 (h_z52:FM K C_Hall "look_or" "Hall.look_or" c_Hall_look_or f_z52 d_z52)
 (h_z53:FM K C_Hall "__init__" "Hall.__init__" c_Hall___init__ f_z53 d_z53)
 (h_z54:FG K "_law_cell_at" s_l_cell_at f_z54 d_z54)
 (h_z55:FG K "_law_box" s_l_box f_z55 d_z55)
 (h_z56:FG K "_law_take" s_l_take f_z56 d_z56)
 (h_z57:FG K "_law_names" s_l_names f_z57 d_z57)
 (h_z58:FG K "_law_value" s_l_value f_z58 d_z58)
 (h_z59:FG K "_law_told" s_l_told f_z59 d_z59)
 (h_z60:FG K "_law_value_of" s_l_value_of f_z60 d_z60)
 (h_z61:FGC K "_law_state_right" s_l_state_right f_z61 d_z61 ca_z61 P_z61)
 (h_z62:FG K "_law_back_right" s_l_back_right f_z62 d_z62)
 (h_z63:FG K "law" s_law f_z63 d_z63)
 (z_len:Qr K Ql "len"=some none)
 (z_abs:Qr K Ql "abs"=some none)
 (z_int:Qr K Ql "int"=some none)
 (z_range:Qr K Ql "range"=some none)
 (z_min:Qr K Ql "min"=some none)
 (z_max:Qr K Ql "max"=some none)
 (z_repr:Qr K Ql "repr"=some none)
 (z_enumerate:Qr K Ql "enumerate"=some none)
 (z_ord:Qr K Ql "ord"=some none)
 (z_list:Qr K Ql "list"=some none)
 (z_tuple:Qr K Ql "tuple"=some none)
 (z_dict:Qr K Ql "dict"=some none)
 (z_sorted:Qr K Ql "sorted"=some none)
 (z_sum:Qr K Ql "sum"=some none)
 (z_all:Qr K Ql "all"=some none)
 (z_any:Qr K Ql "any"=some none)
 (z_divmod:Qr K Ql "divmod"=some none)
 (z_str:Qr K Ql "str"=some none)
 (z_isinstance:Qr K Ql "isinstance"=some none)
 (z_set:Qr K Ql "set"=some none)
 (z_zip:Qr K Ql "zip"=some none)
 (z_reversed:Qr K Ql "reversed"=some none)
 (z_bool:Qr K Ql "bool"=some none)
 {tb:Tok}
 (gBASE:Qr K Ql "BASE"=some (some (.int 4 tb)))
 {tz:Tok}
 (gZERO:Qr K Ql "BARE_NUMBER"=some (some (.int 0 tz)))
 {ab:Addr}
 (gBARE:Qr K Ql "BARE"=some (some (.ref ab)))
 (tBARE:Zdn K ab [.str "bare"]=true)
 {af:Addr}
 (gFIG:Qr K Ql "FIGURES"=some (some (.ref af)))
 (tFIG:Zdn K af [.int 0,.int 1,.int 2,.int 3]=true)
 (zVE:Qr K Ql "ValueError"=some none)
 (x_Known:ZbI K C_RoadError C_Known f_z0 [C_Known,C_NoSetting,C_Missing,C_NoWorld,C_Busy,C_AtHome,C_NoToken,C_Used,C_Elsewhere,C_OutOfTurn] [C_NoTable,C_NoNode,C_NoPlace,C_NotBehind] [C_NoWatcher,C_NoTask,C_BadRow] 0=true)
 (x_NoSetting:ZbI K C_RoadError C_NoSetting f_z0 [C_Known,C_NoSetting,C_Missing,C_NoWorld,C_Busy,C_AtHome,C_NoToken,C_Used,C_Elsewhere,C_OutOfTurn] [C_NoTable,C_NoNode,C_NoPlace,C_NotBehind] [C_NoWatcher,C_NoTask,C_BadRow] 1=true)
 (x_Missing:ZbI K C_RoadError C_Missing f_z0 [C_Known,C_NoSetting,C_Missing,C_NoWorld,C_Busy,C_AtHome,C_NoToken,C_Used,C_Elsewhere,C_OutOfTurn] [C_NoTable,C_NoNode,C_NoPlace,C_NotBehind] [C_NoWatcher,C_NoTask,C_BadRow] 2=true) :
 ∃ fd:Qm,(∀ (s:Qe) (v:Qb),RO s fd ⟨[v],[]⟩ [("_law_script",v)])/\∀ base:Heap,K.In base->base.Ns Ql mg->WE base mg->FnOk l.prog w K mg base ZC 19 fa fd ["_law_script"] (Zdt K P_z4 P_z61):=by
 have e:=hfa.symm.trans (GD X G h_z63.a)
 cases e
 have n_len:=QP X G z_len
 have n_abs:=QP X G z_abs
 have n_int:=QP X G z_int
 have n_range:=QP X G z_range
 have n_min:=QP X G z_min
 have n_max:=QP X G z_max
 have n_repr:=QP X G z_repr
 have n_enumerate:=QP X G z_enumerate
 have n_ord:=QP X G z_ord
 have n_list:=QP X G z_list
 have n_tuple:=QP X G z_tuple
 have n_dict:=QP X G z_dict
 have n_sorted:=QP X G z_sorted
 have n_sum:=QP X G z_sum
 have n_all:=QP X G z_all
 have n_any:=QP X G z_any
 have n_divmod:=QP X G z_divmod
 have n_str:=QP X G z_str
 have n_isinstance:=QP X G z_isinstance
 have n_set:=QP X G z_set
 have n_zip:=QP X G z_zip
 have n_reversed:=QP X G z_reversed
 have n_bool:=QP X G z_bool
 have g_gBASE:=GD X G gBASE
 have g_gZERO:=GD X G gZERO
 have g_gBARE:=GD X G gBARE
 have g_gFIG:=GD X G gFIG
 have g_RoadError:=GD X G gx_RoadError
 have g_Known:=GD X G gx_Known
 have g_NoSetting:=GD X G gx_NoSetting
 have g_Missing:=GD X G gx_Missing
 have g_NoWorld:=GD X G gx_NoWorld
 have g_Busy:=GD X G gx_Busy
 have g_AtHome:=GD X G gx_AtHome
 have g_NoToken:=GD X G gx_NoToken
 have g_Used:=GD X G gx_Used
 have g_Elsewhere:=GD X G gx_Elsewhere
 have g_OutOfTurn:=GD X G gx_OutOfTurn
 have g_NoTable:=GD X G gx_NoTable
 have g_NoNode:=GD X G gx_NoNode
 have g_NoPlace:=GD X G gx_NoPlace
 have g_NotBehind:=GD X G gx_NotBehind
 have g_NoWatcher:=GD X G gx_NoWatcher
 have g_NoTask:=GD X G gx_NoTask
 have g_BadRow:=GD X G gx_BadRow
 have cl_Store:=ch_Store.c
 have cl_Roads:=ch_Roads.c
 have cl_Tokens:=ch_Tokens.c
 have cl_Hall:=ch_Hall.c
 have TB:ZY mg:=⟨n_len,n_abs,n_int,n_range,n_min,n_max,n_repr,n_enumerate,n_ord,n_list,n_tuple,n_dict,n_sorted,n_sum,n_all,n_any,n_divmod,n_str,n_isinstance,n_set,n_zip,n_reversed,n_bool⟩
 have T:Txt K mg:=⟨TB,⟨_,g_gBASE⟩,⟨_,g_gZERO⟩,⟨_,g_gBARE,ZeG tBARE⟩,⟨_,g_gFIG,ZeG tFIG⟩⟩
 have TC:Xr K C_Store:=⟨cl_Store,na_Store_nodes,na_Store_tables⟩
 have TR:Wg K C_Roads:=⟨cl_Roads,na_Roads_kept,na_Roads_aheads,na_Roads_steps,na_Roads_tables,na_Roads_costs⟩
 have TT:WO K C_Tokens:=⟨cl_Tokens,na_Tokens_finds,na_Tokens_unused⟩
 have TH:Xg K C_Hall:=⟨cl_Hall,na_Hall_defaults,na_Hall_ways,na_Hall_spots,na_Hall_inside,na_Hall_held⟩
 have n_VE:=QP X G zVE
 have TE:=ZlA (K:=K) g_RoadError n_VE g_Known g_NoSetting g_Missing g_NoWorld g_Busy g_AtHome g_NoToken g_Used g_Elsewhere g_OutOfTurn g_NoTable g_NoNode g_NoPlace g_NotBehind g_NoWatcher g_NoTask g_BadRow
 have r_Known:RK K C_RoadError [C_Known,C_NoSetting,C_Missing,C_NoWorld,C_Busy,C_AtHome,C_NoToken,C_Used,C_Elsewhere,C_OutOfTurn,C_NoTable,C_NoNode,C_NoPlace,C_NotBehind,C_NoWatcher,C_NoTask,C_BadRow] C_Known "known":=⟨0,(UT x_Known).1,rfl⟩
 have r_NoSetting:RK K C_RoadError [C_Known,C_NoSetting,C_Missing,C_NoWorld,C_Busy,C_AtHome,C_NoToken,C_Used,C_Elsewhere,C_OutOfTurn,C_NoTable,C_NoNode,C_NoPlace,C_NotBehind,C_NoWatcher,C_NoTask,C_BadRow] C_NoSetting "setting":=⟨1,(UT x_NoSetting).1,rfl⟩
 have r_Missing:RK K C_RoadError [C_Known,C_NoSetting,C_Missing,C_NoWorld,C_Busy,C_AtHome,C_NoToken,C_Used,C_Elsewhere,C_OutOfTurn,C_NoTable,C_NoNode,C_NoPlace,C_NotBehind,C_NoWatcher,C_NoTask,C_BadRow] C_Missing "missing":=⟨2,(UT x_Missing).1,rfl⟩
 refine ⟨d_z63,fun s v=>Zhf h_z63.F (fun _ _ _ _ _ _ _=>rfl) s v,fun base _ _ hBm=>?_⟩
 have e:Bs l.prog w K mg base h:=⟨X,G⟩
 have b_z0:Binds K d_z0 ["self","what"] []:=h_z0.F.b2 fun _ _ _ _ _ _ _ _=>rfl
 have D_Known:ZaE l.prog w K mg base 1 C_Known "Known":=⟨_,_,(ZaP h_z0.F).mono (by decide),b_z0,(UT x_Known).2 h_z0.m.fn,g_Known⟩
 have D_NoSetting:ZaE l.prog w K mg base 1 C_NoSetting "NoSetting":=⟨_,_,(ZaP h_z0.F).mono (by decide),b_z0,(UT x_NoSetting).2 h_z0.m.fn,g_NoSetting⟩
 have D_Missing:ZaE l.prog w K mg base 11 C_Missing "Missing":=⟨_,_,(ZaP h_z0.F).mono (by decide),b_z0,(UT x_Missing).2 h_z0.m.fn,g_Missing⟩
 have D_z1:=h_z1.df e (ZjO h_z1.F) (h_z1.F.b2 fun _ _ _ _ _ _ _ _=>rfl)
 have D_z2:=h_z2.df e (ZlJ h_z2.F T) (h_z2.F.b1 fun _ _ _ _ _ _ _=>rfl)
 have D_z3:=h_z3.df e (Zji h_z3.F T) (h_z3.F.b2 fun _ _ _ _ _ _ _ _=>rfl)
 have D_z4:=h_z4.df e (Zlt h_z4.F T hBm D_z2) (h_z4.F.fn.b1 fun _ _ _ _ _ _ _=>rfl)
 have D_z5:=h_z5.df e (ZhB h_z5.F T) (h_z5.F.b1 fun _ _ _ _ _ _ _=>rfl)
 have D_z6:=h_z6.df e (ZiO h_z6.F) (h_z6.F.b1 fun _ _ _ _ _ _ _=>rfl)
 have D_z7:=h_z7.df e (ZjI h_z7.F) (h_z7.F.b1 fun _ _ _ _ _ _ _=>rfl)
 have D_z8:=h_z8.df e (ZlE h_z8.F) (h_z8.F.b2 fun _ _ _ _ _ _ _ _=>rfl)
 have D_z9:=h_z9.di ch_Store e (FnOk.conv (sp':=Zcj K C_Store) (ZlU h_z9.F T TC) (fun _ _ _ _ h=>Zmw h)) (h_z9.F.b1 fun _ _ _ _ _ _ _=>rfl)
 have D_z10:=h_z10.df e (Zjg (C:=C_Store) h_z10.F T) (h_z10.F.b1 fun _ _ _ _ _ _ _=>rfl)
 have D_z11:=h_z11.df e (Zjl h_z11.F TC) (h_z11.F.b2 fun _ _ _ _ _ _ _ _=>rfl)
 have D_z12:=h_z12.df e (Zmb h_z12.F T TC) (h_z12.F.b2 fun _ _ _ _ _ _ _ _=>rfl)
 have D_z13:=h_z13.df e (Zoh h_z13.F TC) (h_z13.F.b2 fun _ _ _ _ _ _ _ _=>rfl)
 have D_z14:=h_z14.df e (Zoq h_z14.F T TC D_z11 D_z6 D_z2 D_z3) (h_z14.F.b3 fun _ _ _ _ _ _ _ _ _=>rfl)
 have b_z15:Binds K d_z15 ["self","table","name"] []:=h_z15.F.b3 fun _ _ _ _ _ _ _ _ _=>rfl
 have D_z15:DefM l.prog w K mg base 3 C_Store "looked" ["self","table","name"] (WZ K C_Store):=⟨_,_,ZcC h_z15.F T TC D_z14 D_z7,b_z15,h_z15.m⟩
 have D_Store_lookS:DefM l.prog w K mg base 3 C_Store "looked" ["self","table","name"] (Zcl K C_Store):=⟨_,_,Znl (ZcC h_z15.F T TC D_z14 D_z7),b_z15,h_z15.m⟩
 have D_z16:=h_z16.df e (Zpx h_z16.F T TC D_z6 D_z7 D_z2 D_z3) (h_z16.F.b3 fun _ _ _ _ _ _ _ _ _=>rfl)
 have b_z17:Binds K d_z17 ["self","number","level","name","value"] []:=h_z17.F.b5 fun _ _ _ _ _ _ _ _ _ _ _=>rfl
 have D_z17:∀ NS,Yq NS->DefM l.prog w K mg base 8 C_Store "put_in" nPi (VY K C_Store P_z4 NS 6):=fun NS N=>⟨_,_,ZeW N h_z17.F T TC D_z8 D_z7 D_z2 D_z3 D_z4 D_z5 D_z12 D_z16 b_z17 h_z17.m 6,b_z17,h_z17.m⟩
 have b_z18:Binds K d_z18 ["self","table","name","value"] []:=h_z18.F.b4 fun _ _ _ _ _ _ _ _ _ _=>rfl
 have D_z18:DefM l.prog w K mg base 9 C_Store "put" ["self","table","name","value"] (Zep K C_Store P_z4):=⟨_,_,Zpz fun NS N=>Znj N h_z18.F TC D_z1 D_z15 D_z13 (D_z17 NS N),b_z18,h_z18.m⟩
 have b_z19:Binds K d_z19 ["self","number","level","name"] []:=h_z19.F.b4 fun _ _ _ _ _ _ _ _ _ _=>rfl
 have D_z19:∀ NS,Yq NS->DefM l.prog w K mg base 8 C_Store "taken_from" nTk (Zbp K C_Store P_z4 NS 6):=fun NS N=>⟨_,_,Zfn N h_z19.F T TC D_z8 D_z6 D_z7 D_z2 D_z3 D_z4 D_z5 D_z12 b_z19 h_z19.m 6,b_z19,h_z19.m⟩
 have b_z20:Binds K d_z20 ["self","table","name"] []:=h_z20.F.b3 fun _ _ _ _ _ _ _ _ _=>rfl
 have D_z20:DefM l.prog w K mg base 9 C_Store "without" ["self","table","name"] (ZfW K C_Store P_z4):=⟨_,_,wo_S fun NS N=>Zox N h_z20.F TC D_z15 D_z13 (D_z19 NS N),b_z20,h_z20.m⟩
 have D_z21:=h_z21.df e (ZlQ h_z21.F T TC) (h_z21.F.b1 fun _ _ _ _ _ _ _=>rfl)
 have D_z22:=h_z22.df e (ZlX (CS:=C_Store) h_z22.F TB TR) (h_z22.F.b2 fun _ _ _ _ _ _ _ _=>rfl)
 have D_z23:=h_z23.df e (Zja h_z23.F TB TR D_z22) (h_z23.F.b2 fun _ _ _ _ _ _ _ _=>rfl)
 have D_z24:=h_z24.df e (Zop h_z24.F TB TR TC (D_z23.mono (by decide)) (D_Store_lookS.mono (by decide))) (h_z24.F.b3 fun _ _ _ _ _ _ _ _ _=>rfl)
 have D_z25:=h_z25.df e (ZkQ h_z25.F TB TR TC (D_z23.mono (by decide)) (D_z21.mono (by decide)) D_z18 D_z20) (h_z25.F.b3 fun _ _ _ _ _ _ _ _ _=>rfl)
 have D_z26:=h_z26.df e (ZkG h_z26.F TB TR D_z25) (h_z26.F.b4 fun _ _ _ _ _ _ _ _ _ _=>rfl)
 have D_z27:=h_z27.df e (ZkY h_z27.F TB TR D_z25) (h_z27.F.b3 fun _ _ _ _ _ _ _ _ _=>rfl)
 have D_z28:=h_z28.df e (Zjc h_z28.F TB TR D_z22) (h_z28.F.b2 fun _ _ _ _ _ _ _ _=>rfl)
 have D_z29:=h_z29.df e (ZjG h_z29.F TB TR D_z22) (h_z29.F.b2 fun _ _ _ _ _ _ _ _=>rfl)
 have D_z30:=h_z30.di ch_Roads e ((ZiY h_z30.F TB TR TC D_z9 (D_z10.mono (by decide))).mono (show 3<=11 by decide)) (h_z30.F.b1 fun _ _ _ _ _ _ _=>rfl)
 have D_z31:=h_z31.di ch_Tokens e (ZjL h_z31.F TB TT) (h_z31.F.b1 fun _ _ _ _ _ _ _=>rfl)
 have D_z32:=h_z32.df e (ZkJ h_z32.F TB TT) (h_z32.F.b4 fun _ _ _ _ _ _ _ _ _ _=>rfl)
 have D_z33:=h_z33.df e (Zmx h_z33.F TB TT) (h_z33.F.b2 fun _ _ _ _ _ _ _ _=>rfl)
 have D_z34:=h_z34.df e (Zmo h_z34.F TB TT D_z33) (h_z34.F.b2 fun _ _ _ _ _ _ _ _=>rfl)
 have D_z35:=h_z35.df e (Znw h_z35.F TB TT) (h_z35.F.b2 fun _ _ _ _ _ _ _ _=>rfl)
 have D_z36:=h_z36.df e (ZoH h_z36.F TB TT) (h_z36.F.b2 fun _ _ _ _ _ _ _ _=>rfl)
 have D_z37:=h_z37.df e (Zpb h_z37.F TB TT D_z34 (D_z36.mono (by decide))) (h_z37.F.b2 fun _ _ _ _ _ _ _ _=>rfl)
 have D_z38:=h_z38.df e (ZpE h_z38.F TB TT (D_z34.mono (by decide)) D_z37) (h_z38.F.b3 fun _ _ _ _ _ _ _ _ _=>rfl)
 have D_z39:=h_z39.df e (ZnH (CH:=C_Hall) (CR:=C_Roads) (CS:=C_Store) (CT:=C_Tokens) h_z39.F TB TH) (h_z39.F.b2 fun _ _ _ _ _ _ _ _=>rfl)
 have D_z40:=h_z40.df e (ZmM (CH:=C_Hall) (CR:=C_Roads) (CS:=C_Store) (CT:=C_Tokens) h_z40.F TB TH D_z39) (h_z40.F.b2 fun _ _ _ _ _ _ _ _=>rfl)
 have D_z41:=h_z41.df e (Zoj (CH:=C_Hall) (CR:=C_Roads) (CS:=C_Store) (CT:=C_Tokens) h_z41.F TB TH) (h_z41.F.b1 fun _ _ _ _ _ _ _=>rfl)
 have b_z42:Binds K d_z42 ["self","name"] []:=h_z42.F.b2 fun _ _ _ _ _ _ _ _=>rfl
 have D_z42:DefMX l.prog w K mg base 3 C_Hall "check_setting" Vg (Zdu K C_Hall C_Roads C_Store C_Tokens C_NoSetting):=⟨_,_,(ZhK h_z42.F TB TH D_NoSetting).mono (by decide),b_z42,h_z42.m⟩
 have D_Hall_ckG:DefM l.prog w K mg base 3 C_Hall "check_setting" Vg (Zdp K C_Hall C_Roads C_Store C_Tokens):=⟨_,_,FnOk.low (ZhK h_z42.F TB TH D_NoSetting) fun _ _ _ _ z=>Zpo z,b_z42,h_z42.m⟩
 have b_z43:Binds K d_z43 ["self","name","default"] []:=h_z43.F.b3 fun _ _ _ _ _ _ _ _ _=>rfl
 have D_z43:DefM l.prog w K mg base 3 C_Hall "declare" Zdj (Zew K C_Hall C_Roads C_Store C_Tokens):=⟨_,_,FnOk.low (ZmS h_z43.F TB TH D_Known) fun _ _ _ _ z=>ZpI z,b_z43,h_z43.m⟩
 have D_z44:=h_z44.df e (Zof h_z44.F TB TH TR (D_z40.mono (by decide)) D_z24) (h_z44.F.b3 fun _ _ _ _ _ _ _ _ _=>rfl)
 have D_z45:=h_z45.df e (Zmm h_z45.F TB TH D_z44) (h_z45.F.b3 fun _ _ _ _ _ _ _ _ _=>rfl)
 have b_z46:Binds K d_z46 ["self","world","name"] []:=h_z46.F.b3 fun _ _ _ _ _ _ _ _ _=>rfl
 have D_z46:DefMX l.prog w K mg base 13 C_Hall "look_in" Zdq (Zgw K C_Hall C_Roads C_Store C_Tokens C_NoSetting C_Missing):=⟨_,_,(Zos h_z46.F TB TH (D_z39.mono (by decide)) (D_z42.mono (by decide)) D_z45 D_Missing).mono (by decide),b_z46,h_z46.m⟩
 have b_z47:Binds K d_z47 ["self","name"] []:=h_z47.F.b2 fun _ _ _ _ _ _ _ _=>rfl
 have D_z47:DefMX l.prog w K mg base 14 C_Hall "look" Zdg (Zgm K C_Hall C_Roads C_Store C_Tokens C_NoSetting C_Missing):=⟨_,_,(ZnO h_z47.F TB TH (D_z41.mono (by decide)) D_z46).mono (by decide),b_z47,h_z47.m⟩
 have D_z48:=h_z48.df e (Zng h_z48.F TB TH TR TT (D_Hall_ckG.mono (by decide)) (D_z41.mono (by decide)) (D_z32.mono (by decide)) (D_z44.mono (by decide)) (D_z40.mono (by decide)) (D_z26.mono (by decide))) (h_z48.F.b3 fun _ _ _ _ _ _ _ _ _=>rfl)
 have D_z49:=h_z49.df e (ZnM h_z49.F TB TH TR TT (D_z41.mono (by decide)) (D_z38.mono (by decide)) (D_z34.mono (by decide)) (D_z35.mono (by decide)) (D_z40.mono (by decide)) (D_z26.mono (by decide)) (D_z27.mono (by decide))) (h_z49.F.b2 fun _ _ _ _ _ _ _ _=>rfl)
 have D_z50:=h_z50.df e (Zog (CH:=C_Hall) (CR:=C_Roads) (CS:=C_Store) (CT:=C_Tokens) h_z50.F TB TH TT D_z34) (h_z50.F.b2 fun _ _ _ _ _ _ _ _=>rfl)
 have D_z51:=h_z51.df e (Znx (CH:=C_Hall) (CR:=C_Roads) (CS:=C_Store) (CT:=C_Tokens) h_z51.F TB TH) (h_z51.F.b1 fun _ _ _ _ _ _ _=>rfl)
 have D_z52:=h_z52.df e (Zoe h_z52.F TB TH (D_Hall_ckG.mono (by decide)) (D_z41.mono (by decide)) (D_z44.mono (by decide))) (h_z52.F.b3 fun _ _ _ _ _ _ _ _ _=>rfl)
 have D_z53:=h_z53.di ch_Hall e ((ZiV h_z53.F TB TH D_z30 D_z31).mono (show 13<=17 by decide)) (h_z53.F.b1 fun _ _ _ _ _ _ _=>rfl)
 have D_z54:=h_z54.df e (ZkH h_z54.F TB) (h_z54.F.b2 fun _ _ _ _ _ _ _ _=>rfl)
 have D_z55:=h_z55.df e (FnOk.conv (sp':=Zex K) (ZnZ h_z55.F TB D_z54) (fun _ _ _ _ h=>Zpl h)) (h_z55.F.b2 fun _ _ _ _ _ _ _ _=>rfl)
 have b_z56:Binds K d_z56 ["_law_box_here","_law_many"] []:=h_z56.F.b2 fun _ _ _ _ _ _ _ _=>rfl
 have DT0:Zko l.prog w K mg base:=⟨_,_,ZkU h_z56.F,b_z56,h_z56.F.kp,(GD X G h_z56.a)⟩
 have D_z56:DTk l.prog w K mg base 1:=DT0.conv fun _ _ _ _ h=>ZnE h
 have D_z57:=h_z57.df e (ZjC h_z57.F TB D_z56) (h_z57.F.b2 fun _ _ _ _ _ _ _ _=>rfl)
 have D_z58:=h_z58.df e (FnOk.conv (sp':=ZaB) (ZiK h_z58.F T DT0) (fun _ _ _ _ h=>ZlY h)) (h_z58.F.b1 fun _ _ _ _ _ _ _=>rfl)
 have D_z59:=h_z59.df e (Zln (kk:=15) h_z59.F TB TE) (h_z59.F.b1 fun _ _ _ _ _ _ _=>rfl)
 have D_z60:=h_z60.df e (Zow (k:=0) h_z60.F TB) (h_z60.F.b2 fun _ _ _ _ _ _ _ _=>rfl)
 have D_z61:=h_z61.df e (ZoT h_z61.F hBm TB TH (D_z60.mono (by decide)) D_z47 (D_z52.mono (by decide)) (D_z50.mono (by decide)) r_NoSetting r_Missing (D_z59.mono (by decide))) (h_z61.F.fn.b4 fun _ _ _ _ _ _ _ _ _ _=>rfl)
 have D_z62:=h_z62.df e (ZoM h_z62.F TB TH TR (D_z40.mono (by decide)) (D_z49.mono (by decide)) (D_z51.mono (by decide)) (D_z29.mono (by decide)) (D_z28.mono (by decide))) (h_z62.F.b4 fun _ _ _ _ _ _ _ _ _ _=>rfl)
 exact ZnU h_z63.F TB TH D_z56 (D_z55.mono (by decide)) (D_z57.mono (by decide)) (D_z58.mono (by decide)) D_z53 (D_z43.mono (by decide)) (D_z48.mono (by decide)) (D_z60.mono (by decide)) D_z61 (D_z62.mono (by decide))
theorem walk {l:Ri}{q:Qk}{loose:List Str}{XP:(Str->Option Qb)->Heap->Prop}{YP:Qv->Heap->Prop}{d:DefRec}{K:Params->Qa}{ts:List Addr}{P_z61 P_z4:Addr}(hn:l.most=some 63)(hdf:d.params.defaults=[])
 (hY:∀ (w:Qv) (h:Heap),YP w h->(K w.params).In h/\∀ b∈ts,h.get? b=some (PySem.W.tabObj #[]))
 (hK:∀ (w:Qv) (b:Addr),b∈ts->(K w.params).lookup b=none/\∃ c,PySem.W.codeHdIn (K w.params) c b=true)
 (hP_law_state_right:P_z61∈ts) (hP_leaf_of:P_z4∈ts) (hne:P_z4≠P_z61) (F:∀ (w:Qv) (mg:Str->Option Qb) (fa:Addr) (h:Heap),(K w.params).In h->h.Ns Ql mg->mg d.name=some (.ref fa) ->
  ∃ fd:Qm,(∀ (s:Qe) (u:Qb),RO s fd ⟨[u],[]⟩ [("_law_script",u)])/\∀ base:Heap,(K w.params).In base->base.Ns Ql mg->WE base mg->FnOk l.prog w (K w.params) mg base ZC 19 fa fd ["_law_script"] (Zdt (K w.params) P_z4 P_z61)) :
 PySem.W.WalkO q loose XP YP l.row.toRowW d [] (fun f vs=>PySem.call f vs) :=
 L2.walk_ofT (n:=63) (k:=19) (x:="_law_script") (CX:=fun _=>ZC) (sp:=fun w=>Zdt (K w.params) P_z4 P_z61) (ts:=ts) hn (by decide) hdf ⟨rfl,by decide,by decide,rfl⟩ hY hK F (fun w H a ns hl hO hS hT=>⟨a,ns,rfl,hS,hl,hT _ hP_leaf_of,hT _ hP_law_state_right,hne,fun _=>rfl⟩) fun _ _ _ _ _ z=>z
end K36
namespace PySem.W.Fast
def tw16720084254860833916:=0
def tw16756636392964653088:=0
def tw6944181590265255697:=0
def tw131385563528509018:=0
def tw16347666763779519920:=0
def tw2062793442057205679:=0
def tw17307055596321663722:=0
def tw7820851760026862777:=0
def tw6935018923874445617:=0
def tw2795357463386371729:=0
def tw10074929443134553875:=0
def tw1495768258653123327:=0
def tw16176137360748810663:=0
def tw3818594993311714931:=0
def tw14061412574340513388:=0
def tw3513540654365672558:=0
def tw10387551286881486215:=0
def tw10396148858705005146:=0
def tw8705969247071046123:=0
def tw16993438115561628920:=0
def tw5163835385887826675:=0
def tw11061141417935752790:=0
def tw14803204188161747156:=0
def tw7430960287119368922:=0
def tw16293222689787344130:=0
def tw7339172457265002916:=0
def tw307697926039233525:=0
def tw5528747856064569134:=0
def tw15102632744479340015:=0
def tw16136155319268132948:=0
def tw14556454741536672305:=0
def tw4136948105310855224:=0
def tw14486573580351384695:=0
def tw12907816738831695648:=0
def tw4205040206557872510:=0
def tw6605645202718885676:=0
def tw2533443899729276456:=0
def tw4737422383771158842:=0
def tw4409464394755272560:=0
def tw10226647105727487163:=0
def tw1283803705777613433:=0
def tw7875403597831707063:=0
def tw9749259306848582907:=0
def tw8544040755717722249:=0
def tw9208914108952185571:=0
def tw15861050477509812791:=0
def tw3175928503701626581:=0
def tw1487526445690627150:=0
def tw7660213174330814948:=0
def tw2898284025739723011:=0
def tw16232549494039161027:=0
def tw14719459543614140157:=0
def tw17699620544618532459:=0
def tw12827848360124903034:=0
def tw6940784518600017763:=0
def tw3957526454719445838:=0
def tw12438200938147217128:=0
def tw3297146431220294388:=0
def tw15628723926512847006:=0
def tw6865730799322674153:=0
def tw400526002648960379:=0
def tw1443184754457547914:=0
def tw2729623574389442088:=0
def tw16586292474900198740:=0
def tw15148609094164107058:=0
def tw2865851862863995881:=0
def tw5431830110264233227:=0
def tw6954798239173835585:=0
def tw12136845538188983032:=0
def tw4375279502984495969:=0
def tw1050553085195210183:=0
def tw1016671389402714072:=0
def tw7008956757322347107:=0
def tw16711650626693251246:=0
def tw1277121778025490991:=0
def tw17143778300104208638:=0
def tw15582872570455501728:=0
def tw7183224080371317750:=0
def tw7450693569566582652:=0
def tw14978913060058402457:=0
def tw16608635145213336129:=0
def tw1653428596136536729:=0
def tw15468539082552937967:=0
def tw5350892496971849620:=0
def tw7298650971111381229:=0
def tw11035153017233421277:=0
def tw14940510934647532383:=0
def tw4837998831590081015:=0
def tw1144481192769750877:=0
def tw16823103260797722628:=0
def tw17816864236581966331:=0
def tw3970158592503696845:=0
def tw10867097679516476790:=0
def tw9948826893758422575:=0
def tw4121075469205078641:=0
def tw3874375256867525391:=0
def tw5881089934193874754:=0
def tw17220483056677688980:=0
def tw17309125497699277907:=0
def tw13334627511450077489:=0
def tw12454542932922929179:=0
def tw1443949768762267035:=0
def tw9109990166658152663:=0
def tw5029911018228596500:=0
def tw3011472957023028739:=0
def tw16913691067238556278:=0
def tw13967675530448576872:=0
def tw7341797035333587398:=0
def tw5876614367087804810:=0
def tw12076863856293714914:=0
def tw4518577047182678564:=0
def tw7240273007577973305:=0
def tw13755305635470876608:=0
def tw2858757508951217445:=0
def tw17440963742502347981:=0
def tw1294163638076584559:=0
def tw7162576100499966565:=0
def tw11570108475486774270:=0
def tw14143246392876805583:=0
def tw5344197315267243054:=0
def tw1759197585400201361:=0
def tw15698140903077732653:=0
def tw321410446913141449:=0
def tw14520983351659112990:=0
def tw7258700390075917754:=0
def tw996457504504919379:=0
def tw14344650448102486295:=0
def tw7560582668144915150:=0
def tw6309623587639980168:=0
def tw6516931841636669873:=0
def tw15936704865049580126:=0
def tw5214766491643383549:=0
def tw16701683860839484554:=0
def tw15774297064583702918:=0
def tw13807292083151302890:=0
def tw14142161404149888080:=0
def tw6254482648610582662:=0
def tw16286536805133027017:=0
def tw15856340720901564122:=0
def tw3144552890093006250:=0
def tw1386945087159454255:=0
def tw6931329669415973629:=0
def tw4485465501890895673:=0
def tw6104332148601966635:=0
def tw14266001852431346686:=0
def tw7459415478166691625:=0
def tw18282132136856321514:=0
def tw17258086996493740849:=0
def tw93320817246338393:=0
def tw17731338573626607201:=0
def tw4998618379480695663:=0
def tw14795106252574665765:=0
def tw7787430632359093165:=0
def tw13341666819251668702:=0
def tw18172915728126092546:=0
def tw3095624657603459060:=0
def tw8813481753655600700:=0
def tw979382733791534253:=0
def tw4627775756718248474:=0
def tw17972256914883804274:=0
def tw4809308593172813674:=0
def tw7311105908568093542:=0
def tw2169958544516186622:=0
def tw6071768053347903594:=0
def tw18287897703245883029:=0
def tw805431451617846678:=0
def tw9740888907409727928:=0
def tw16910005190868774057:=0
def tw18350702935065910742:=0
def tw7055741575698677972:=0
def tw565858830398048822:=0
def tw15179301578670840993:=0
def tw1638500987868251716:=0
def tw7394086068647282223:=0
def tw2870620587032972764:=0
def tw3523588188611887957:=0
def tw9447937761482011264:=0
def tw12317197899709654532:=0
def tw14540969047003754318:=0
def tw634785919028516344:=0
def tw4507271973002454586:=0
def tw12457670168197306510:=0
def tw11630434345665376264:=0
def tw14067971413991050689:=0
def tw911983746411925042:=0
def tw17432383434977944663:=0
def tw15597252753350101257:=0
def tw18275894316374738755:=0
def tw13562468012841901280:=0
def tw473373237645095454:=0
def tw13450561809344913569:=0
def tw10689823693359461221:=0
def tw12161486091293705820:=0
def tw13013266663476097579:=0
def tw14192116734328190917:=0
def tw7839105107817412692:=0
def tw2732830544631894169:=0
def tw4630635362723987624:=0
def tw16900024653022692398:=0
def tw3415259188035592261:=0
def tw4301471768009521736:=0
def tw10188295648689872372:=0
def tw16086704302749837026:=0
def tw8990739512910263125:=0
def tw8087394834244686106:=0
def tw4595188448467747377:=0
def tw2598662619298868080:=0
def tw11960879589272872148:=0
def tw17272545893603354446:=0
def tw6179730146144914014:=0
def tw2777432831854430880:=0
def tw3751315905057425978:=0
def tw18037567561635885832:=0
def tw14056436674375579046:=0
def tw4752938787779140270:=0
def tw8507180694173634311:=0
def tw3844646645797464696:=0
def tw2326640347431425524:=0
def tw527837694801351919:=0
def tw793667393784033144:=0
def tw17243860239543886708:=0
def tw9537243117793934317:=0
def tw10147559299685784365:=0
def tw5069790528139193546:=0
def tw449305058064540250:=0
def tw2037506267421576192:=0
def tw12240297655534306465:=0
def tw17839111765443546315:=0
def tw4508861526924341656:=0
def tw13329470848446388120:=0
def tw1244465677420506474:=0
def tw9946995626505684121:=0
def tw2255280111610330370:=0
def tw11495803360334351250:=0
def tw1786877117213755631:=0
def tw13631279113902687714:=0
def tw12335503769549320042:=0
def tw2641532729498678193:=0
def tw3682575195216038454:=0
def tw10078232739285214992:=0
def tw4665500692554743254:=0
def tw16073703679342988105:=0
def tw12732999813542646147:=0
def tw7290856350689837718:=0
def tw1675720979348037815:=0
def tw18321932042104957149:=0
def tw3171835736111683804:=0
def tw16125787459198038793:=0
def tw18184860707726785245:=0
def tw15869831848637081204:=0
def tw11105646560996463834:=0
def tw3616376573611089956:=0
def tw9931643098704192:=0
def tw16501145683558325032:=0
def tw15351408099224634779:=0
def tw10169930296609554517:=0
def tw5371401590850817207:=0
def tw3068745476241067814:=0
def tw13643848674284930459:=0
def tw18060380429001702296:=0
def tw16160164697883266265:=0
def tw15158533028613417140:=0
def tw8628967214904447168:=0
def tw14245172866844399798:=0
def tw17498904211787836647:=0
def tw4068790930532256646:=0
def tw6156143997791552570:=0
def tw9330820728800557249:=0
def tw6141008702324927902:=0
def tw2884107073962960256:=0
def tw2733065202362425576:=0
def tw16466295099425122281:=0
def tw15414705935546540559:=0
def tw11949067296593412750:=0
def tw11724945495497629349:=0
def tw10667554744637924175:=0
def tw12581252294342535509:=0
def tw11920912435467388813:=0
def tw10216564901954054581:=0
def tw15750020695797232354:=0
def tw17049466774462856434:=0
def tw4544615474167410844:=0
def tw10684797237916748478:=0
def tw16032855289657666111:=0
def tw4948857265295066209:=0
def tw1243521621690235479:=0
def tw1294465459894460664:=0
def tw11648406761172600293:=0
def tw15710943382715612922:=0
def tw16022414104559420927:=0
def tw7385403873307954006:=0
def tw16334679840900926270:=0
def tw5634172627185296636:=0
def tw9217597149054656174:=0
def tw12336265013894506512:=0
def tw6787460184157882351:=0
def tw6914614982436036052:=0
def tw3309015478343455345:=0
def tw3222767349461592549:=0
def tw3181550455811939861:=0
def tw13563101296570601711:=0
def tw1103029651502687668:=0
def tw10267191351398798286:=0
def tw1615351982658934475:=0
def tw15422369483941213754:=0
def tw12810192926814257689:=0
def tw15432679972860935740:=0
def tw4966865284882100735:=0
def tw5252925603059963490:=0
def tw3627202812614153065:=0
def tw14952538969475669040:=0
def tw4241641580937265276:=0
def tw12012755670909200409:=0
def tw5500895640456401806:=0
def tw17365624628325125738:=0
def tw9078027026136535863:=0
def tw5829949500225936119:=0
def tw13041318758900683868:=0
def tw16622859589458882820:=0
def tw16655205432006121106:=0
def tw14157016978269370143:=0
def tw3712513897384387274:=0
def tw10826539394537896342:=0
def tw4846107274317704187:=0
def tw18100640721302805035:=0
def tw13588802975528735038:=0
def tw11707458581943514098:=0
def tw6269854541115295847:=0
def tw18377209496375919220:=0
def tw17027299399581067721:=0
def tw295815180987333283:=0
def tw2211895645807366180:=0
def tw16296033595298314977:=0
def tw10367773353209662179:=0
def tw4735768696114576033:=0
def tw13118620759405976006:=0
def tw256619215063175183:=0
def tw7758103411003327165:=0
def tw16643545651655445125:=0
def tw12455311537533479401:=0
def tw12125434544549764882:=0
def tw10184445099076051412:=0
def tw9715547862588369959:=0
def tw1894389851420230285:=0
def tw6001512193980082756:=0
def tw17990508479267989929:=0
def tw654285095251033876:=0
def tw5692461824179400788:=0
def tw5686559939419569606:=0
def tw4424889056484308495:=0
def tw17420985263487862458:=0
def tw2823482511466927587:=0
def tw1793669392173622280:=0
def tw17645323936871664951:=0
def tw11657044992841806146:=0
def tw10498119255004300776:=0
def tw10377339314519550822:=0
def tw10218869087430835434:=0
def tw865234795625329630:=0
def tw8456890428008260328:=0
def tw4976946719622901534:=0
def tw2584189169447816526:=0
def tw16626613495923688611:=0
def tw16453128733619936279:=0
def tw12870035574945876550:=0
def tw10426247016396572745:=0
def tw3490581602011567406:=0
def tw8608441375552591491:=0
def tw3857801717633778470:=0
def tw2790906986105893540:=0
def tw18197692434492618984:=0
def tw11531603774290858030:=0
def tw8127876669966943704:=0
def tw1754112751048117753:=0
def tw1149792365137990157:=0
def tw17220829453056811143:=0
def tw5622854684786544030:=0
def tw12156490773290019510:=0
def tw4003007468770526248:=0
def tw270995363634742293:=0
def tw15913905847643659025:=0
def tw10787151421569439640:=0
def tw2391007685853322934:=0
def tw16220402948339424189:=0
def tw12148022346019873324:=0
def tw18329431959460846352:=0
def tw6580324164947432904:=0
def tw3320007276875963863:=0
def tw9473068998769174546:=0
def tw9234059522083370337:=0
def tw3375569709265307250:=0
def tw13788618765946506876:=0
def tw5901727984836054203:=0
def tw15453891064365265736:=0
def tw14391578217191137217:=0
def tw17346103094611805675:=0
def tw16156453332464391233:=0
def tw7674456584620743134:=0
def tw7166095143049790465:=0
def tw3883572155444346490:=0
def tw17534772172424303389:=0
def tw15964149271058030885:=0
def tw1320529684074507509:=0
def tw1036243055229511963:=0
def tw2611905841711055869:=0
def tw14438876046389745754:=0
def tw17795996602036525191:=0
def tw3962361131010233203:=0
def tw9858240121437901878:=0
def tw4188231486355623570:=0
def tw16846959192458872714:=0
def tw4669141709089649134:=0
def tw2682954748378952415:=0
def tw10217254402755407314:=0
def tw18075898434817800291:=0
def tw11203011265591127484:=0
def tw16046911713226890659:=0
def tw12161426951913240762:=0
def tw16105528059964343565:=0
def tw10748708628813976145:=0
def tw6149558746468056855:=0
def tw5346103844659400729:=0
def tw4652899252924504220:=0
def tw3816727917575459057:=0
def tw2696581218057195003:=0
def tw2063229541259229499:=0
def tw18267259400645244692:=0
def tw14494993509317908718:=0
def tw13799332786353558207:=0
def tw11487580150804456545:=0
def tw1141048423683903493:=0
def tw1079595779456305304:=0
def tw10348714746991653539:=0
def tw10326909461793724799:=0
def tw1001025709504711951:=0
def tw5340062713245029402:=0
def tw3237329327020262885:=0
def tw9420595715645564567:=0
def tw9184084651948857932:=0
def tw8770671301573815958:=0
def tw8374073604068070621:=0
def tw8238348764648758458:=0
def tw6309479405506826592:=0
def tw5656144971109899485:=0
def tw5540485156196257670:=0
def tw347901808503488496:=0
def tw2229365716025418981:=0
def tw18061602776446530009:=0
def tw14279126291489589645:=0
def tw13514570598068634641:=0
def tw13513569393498762962:=0
def tw13219114339006625000:=0
def tw1306167111510546535:=0
def tw13059795012984482765:=0
def tw12973409318260462694:=0
def tw11430603466705212057:=0
def tw3827612377730268889:=0
def tw17450874929038356413:=0
def tw9283054263882766060:=0
def tw8926411498570396497:=0
def tw6205497347712419291:=0
def tw17830558768314067389:=0
def tw1181292205905589557:=0
def tw1887935541940188951:=0
def tw12886427367537545077:=0
def tw8278483993502601179:=0
def tw17904942892528152734:=0
def tw17606534740864924153:=0
def tw16830589388500264918:=0
def tw8658938927435375405:=0
def tw7491120980391201231:=0
def tw2478362632819670405:=0
def tw13754220606456611720:=0
def tw18111836514004506842:=0
def tw8442975335074947685:=0
def tw8265412490867407626:=0
def tw7272570328648474092:=0
def tw6515511115456787542:=0
def tw6214308994253462543:=0
def tw509170813707081028:=0
def tw3064920948839012972:=0
def tw3029010915706420748:=0
def tw2789969058131798304:=0
def tw18141643453735654014:=0
def tw14924600166330573798:=0
def tw14529462540319636409:=0
def tw12457361011679136720:=0
def tw12400881181802248156:=0
def tw11485713742256134020:=0
def tw3292762176636206245:=0
def tw18045127172426853058:=0
def tw9935039178235184110:=0
def tw889884720812622851:=0
def tw8349019638076622176:=0
def tw6849607489480513533:=0
def tw6342130945815900054:=0
def tw5418020301347724170:=0
def tw3201616170639973474:=0
def tw2492753425528349199:=0
def tw15604358358078223501:=0
def tw15553403047980116659:=0
def tw15167396129884606782:=0
def tw12437802945357095104:=0
def tw10798058503296696923:=0
def tw6630259876102909962:=0
def tw17136220548921855588:=0
def tw12912054737095408927:=0
def tw15541039248143014515:=0
def tw13022377463638474264:=0
def tw5753484055482609685:=0
def tw8479902276142419154:=0
def tw7215488406842837498:=0
def tw6511469601830924654:=0
def tw17681860580591093579:=0
def tw10785719935052995129:=0
def tw16697905223438704665:=0
def tw5825371194932925518:=0
def tw3995198997126426252:=0
def tw17162091131397071124:=0
def tw16071431553014419485:=0
def tw9563718975643120140:=0
def tw5674900841912063732:=0
def tw3177056805809742615:=0
def tw3050241540411542583:=0
def tw176583610257944601:=0
def tw16664850311278036942:=0
def tw13425917383417837135:=0
def tw4455250733561929745:=0
def tw3995271771378412126:=0
def tw1945620993247267791:=0
def tw9997948775260089159:=0
def tw833433000269061918:=0
def tw810747833183818594:=0
def tw4445775810219795971:=0
def tw3309387912759610277:=0
def tw3203963801294613945:=0
def tw2005163585759201350:=0
def tw17517549206123536652:=0
def tw17206920177091940325:=0
def tw13351622612683400526:=0
def tw1162577415750920824:=0
def tw11246241764089575:=0
def tw10306553109652114887:=0
def tw10098913775565846607:=0
def tw10035753549376068843:=0
def tw6771185134941340646:=0
def tw5072867273495979133:=0
def tw15528739054541043768:=0
def tw6524648397739462709:=0
def tw5842206930895702970:=0
def tw1802107153159431311:=0
def tw17193580181387334130:=0
def tw15071758513151860456:=0
def tw12852103778110661672:=0
def tw8875861132208396752:=0
def tw15921112715221473842:=0
def tw2140279686769225097:=0
def tw11994065708849799265:=0
def tw16244366835299022567:=0
def tw4828048644272223532:=0
def tw288009499092049822:=0
def tw11157226705255600348:=0
def tw5770431266161093179:=0
def tw11691477141237723739:=0
def tw9597729874080648776:=0
def tw8614881395537141199:=0
def tw5398554764975673823:=0
def tw17165788457158220762:=0
def tw4783365848774496108:=0
def tw6013183637529331884:=0
def tw369225913343115907:=0
def tw8485441371162515546:=0
def tw3398745048927714867:=0
def tw14824524561175744505:=0
def tw8353911787726513677:=0
def tw7701270581534878510:=0
def tw7252310030705268195:=0
def tw6925007812391849458:=0
def tw67944866601853610:=0
def tw2184604917658629580:=0
def tw2124827371757291410:=0
def tw2006865859840721244:=0
def tw16792019566451320580:=0
def tw16501441622814192919:=0
def tw15820386556407286327:=0
def tw14826023210168533920:=0
def tw13517552798900455485:=0
def tw12903663373755854382:=0
def tw12368290656558003129:=0
def tw1112168306858435229:=0
def tw11050557268680595321:=0
def tw11049582450509304709:=0
def tw10499684465908349549:=0
def tw9280064349721904932:=0
def tw7495534246437706202:=0
def tw16786547705706089488:=0
def tw16718777773862235092:=0
def tw1732985931254397234:=0
def tw11568333572554737834:=0
def tw7420556944923002241:=0
def tw7323562014841674647:=0
def tw47605648283757221:=0
def tw4615118183159864048:=0
def tw353390983483395558:=0
def tw2663825840897181293:=0
def tw1678311709000801178:=0
def tw1656630160811769924:=0
def tw15549985362593745245:=0
def tw15240410361062759240:=0
def tw14967984574736012058:=0
def tw13951233557317382930:=0
def tw13128181772467859483:=0
def tw13053522795636010659:=0
def tw11820116180409698516:=0
def tw11512584887001009987:=0
def tw1008530664768392117:=0
def tw4427948781276591716:=0
def tw9353588788745331434:=0
def tw7864899406368663345:=0
def tw7049994973201924406:=0
def tw4891510604394104563:=0
def tw4815694342568035548:=0
def tw2981797009136532489:=0
def tw18358924961839552296:=0
def tw16900932690369099496:=0
def tw16438665688667246119:=0
def tw14867216189295132868:=0
def tw2157640399697086673:=0
def tw15543455912379127647:=0
def tw9467279952703732886:=0
def tw17071538271737987391:=0
def tw15427187629066394383:=0
def tw12790352420998735765:=0
def tw11702572695487558265:=0
def tw11383952657510952703:=0
def tw9451904964735611018:=0
def tw8018179898840091245:=0
def tw7619087101500119043:=0
def tw6750699443751489129:=0
def tw6540752022364419372:=0
def tw636650901543317507:=0
def tw5196025389692577722:=0
def tw4896766235866760015:=0
def tw4603893941566988262:=0
def tw2559494345418058137:=0
def tw2406351073979549921:=0
def tw1943713690188282263:=0
def tw16175690788693584979:=0
def tw1527192936033070572:=0
def tw12202631115637622330:=0
def tw11652425717363948912:=0
def tw11036608510516927475:=0
def tw8308672550782460046:=0
def tw9090149701312942023:=0
def tw8202714808246766547:=0
def tw7840385203687181915:=0
def tw6840252283090281768:=0
def tw6315860829742238748:=0
def tw15511253940857758511:=0
def tw14677432992524212481:=0
def tw12936568665505261202:=0
def tw12795217770520425667:=0
def tw12243772213476927225:=0
def tw12224637199719593335:=0
def tw11917984804423015456:=0
def tw10687952831564954209:=0
def tw10483470213503796827:=0
def tw9908971658367891382:=0
def tw8322649616549805577:=0
def tw7943141692283951258:=0
def tw6845034762263332409:=0
def tw6736718148078773019:=0
def tw5017867122834045568:=0
def tw4607341190591487746:=0
def tw4205516306097367771:=0
def tw3860182990983829163:=0
def tw3425169390420154805:=0
def tw3343285153914900272:=0
def tw3223299230257898861:=0
def tw1784054631307911010:=0
def tw16371410959936696248:=0
def tw16099541851183140304:=0
def tw15845962206361418315:=0
def tw15501450145500073073:=0
def tw13394479105300991262:=0
def tw12307226641368503951:=0
def tw12306258118701223089:=0
def tw12299984874676739404:=0
def tw11794058714627221095:=0
def tw11369702507778256847:=0
def tw10084587832621239389:=0
def tw998155681024564802:=0
def tw9980403678174693594:=0
def tw9946161447424667507:=0
def tw9785250931076811353:=0
def tw9782591555473071754:=0
def tw9777267138818892605:=0
def tw9691628722001989880:=0
def tw9642009955603982554:=0
def tw9627107005861020563:=0
def tw9577772290693304002:=0
def tw9574810344183718044:=0
def tw9569630709054368267:=0
def tw9545972746112598645:=0
def tw9537196550948214271:=0
def tw9504927088866328422:=0
def tw9498792810650381847:=0
def tw9482102417483717596:=0
def tw9441738630732533236:=0
def tw942432786825093111:=0
def tw9356458899486189066:=0
def tw9347310762450112724:=0
def tw9294048342739994839:=0
def tw9273971060189391969:=0
def tw9230612648260188512:=0
def tw899872351374177102:=0
def tw8929205316071799358:=0
def tw883428988260672640:=0
def tw8811051635564767501:=0
def tw8771084649671076221:=0
def tw875675817163908011:=0
def tw8573868757723514342:=0
def tw8560962637668374875:=0
def tw8536909084297932412:=0
def tw850598461193441031:=0
def tw842781132457171177:=0
def tw83583015411486699:=0
def tw8328245724123486451:=0
def tw824768118244069338:=0
def tw8236503432363558144:=0
def tw8234185339662693462:=0
def tw8219160837167318659:=0
def tw8094563691654082050:=0
def tw8040706798912612816:=0
def tw8011583043020656827:=0
def tw7912010676132577496:=0
def tw7910016470566727423:=0
def tw7854858490317014904:=0
def tw7841001025228280625:=0
def tw7838299134880238095:=0
def tw7796885951343560843:=0
def tw7756428100111917983:=0
def tw7736226884427225259:=0
def tw7717901184278159958:=0
def tw771040802630938068:=0
def tw7699936557653134760:=0
def tw7699502702791675931:=0
def tw7664220830638765378:=0
def tw7604409273879503193:=0
def tw7592480077768424346:=0
def tw7508624787090371846:=0
def tw7429216744810176328:=0
def tw7416474048287569130:=0
def tw7307393813251927312:=0
def tw7296942452138073568:=0
def tw7264702039460248819:=0
def tw7091300663232199371:=0
def tw6978127876815977778:=0
def tw691096320473579433:=0
def tw6895274951358895757:=0
def tw6893827320434721263:=0
def tw6888856255192988740:=0
def tw6848256744666791780:=0
def tw6828824598799413365:=0
def tw6734782655503843633:=0
def tw6673283954220495238:=0
def tw6667145588983439793:=0
def tw6635018418648096059:=0
def tw6544716381534341721:=0
def tw6539952518444642272:=0
def tw6512817316339556017:=0
def tw6454914780723839231:=0
def tw6450238173287979941:=0
def tw6439794805030496559:=0
def tw6422313405622060550:=0
def tw6385480909896525253:=0
def tw6320639049724178981:=0
def tw6275741281639789350:=0
def tw6243306857429145583:=0
def tw6174416319573763715:=0
def tw6119203089485267082:=0
def tw6112804772997613137:=0
def tw6072662791634670319:=0
def tw6014090974250038760:=0
def tw5996846088346683386:=0
def tw5924391665101674561:=0
def tw5919614573862721324:=0
def tw5872044741948112702:=0
def tw5857262287592949148:=0
def tw5825659767227306673:=0
def tw5811305545736134716:=0
def tw5782720093450734192:=0
def tw5747637461887033158:=0
def tw5706077623319193149:=0
def tw5644581656949792879:=0
def tw5637373990659957123:=0
def tw5619460878698299727:=0
def tw5605774386438321353:=0
def tw5534742801077005984:=0
def tw535918247820667524:=0
def tw5329534382581608358:=0
def tw5281335868483629728:=0
def tw5212501257412823041:=0
def tw5209665539223362709:=0
def tw5171508520030944662:=0
def tw5169125104037664728:=0
def tw5122755234486205052:=0
def tw5082721193994413185:=0
def tw5065979045279204654:=0
def tw5051221013526076796:=0
def tw5028647200071100941:=0
def tw5009943588504214089:=0
def tw5007027893193482481:=0
def tw4950553870599215835:=0
def tw4946210703736693854:=0
def tw4884675540814214956:=0
def tw4857103250316671641:=0
def tw4800407279119913089:=0
def tw4764584462736311919:=0
def tw4738071986864693401:=0
def tw4725836439831544548:=0
def tw4718897451427565989:=0
def tw4717419344202266711:=0
def tw4575662744079878287:=0
def tw4527174422697521351:=0
def tw4523461790977535414:=0
def tw4502498706565923789:=0
def tw4498665460178965129:=0
def tw4344164432881527390:=0
def tw427661446584911206:=0
def tw4271750356797175842:=0
def tw422777937933798857:=0
def tw4183586395797366177:=0
def tw4182169305871986280:=0
def tw3996399375450632637:=0
def tw3949993807805513987:=0
def tw3891806155093804224:=0
def tw3853348295043546871:=0
def tw3845945573091172465:=0
def tw3831186638450786649:=0
def tw3823938867836158273:=0
def tw3810516723130741358:=0
def tw3802836907674984816:=0
def tw3712908318825899156:=0
def tw3678819516076796145:=0
def tw3651721408784405809:=0
def tw3566092546229201480:=0
def tw3562190229011163313:=0
def tw3561215353162502416:=0
def tw3560601768491880148:=0
def tw3556736678231362193:=0
def tw3487996011605329915:=0
def tw3394636616321008504:=0
def tw3384453236674089628:=0
def tw3326915380257097278:=0
def tw3274254559571605598:=0
def tw3243657787145465862:=0
def tw3198177418258336881:=0
def tw3100727228121074715:=0
def tw2988844561211284135:=0
def tw2883244677875223629:=0
def tw2855634859707979167:=0
def tw2798144173320894827:=0
def tw277049651637007561:=0
def tw270041205614205967:=0
def tw2639246093566590811:=0
def tw2473171486840283420:=0
def tw2411476021491808528:=0
def tw2403677268781838571:=0
def tw2401163049864361570:=0
def tw2252347004140868203:=0
def tw2230111134964593403:=0
def tw221714680587580065:=0
def tw2188458610710640928:=0
def tw2164282853948266618:=0
def tw2155303560324746645:=0
def tw2111015750754956678:=0
def tw2077044331280198879:=0
def tw2040167583883624785:=0
def tw191523407194538505:=0
def tw1910430065318874958:=0
def tw1850307899878395470:=0
def tw18363248515290713084:=0
def tw18349435988960326754:=0
def tw18337773408901881900:=0
def tw18299609282650280111:=0
def tw18270382168885198935:=0
def tw1823589575764981662:=0
def tw18203056345915790490:=0
def tw18156806853062438302:=0
def tw18100260146223630363:=0
def tw18050266223471653336:=0
def tw18035557143890264490:=0
def tw18011897755561200536:=0
def tw17922460290464731875:=0
def tw17919823681275230608:=0
def tw17889378765115438761:=0
def tw17791213032516813522:=0
def tw17788755771407531790:=0
def tw17784294179083280529:=0
def tw17774810407448020886:=0
def tw1776238398772680820:=0
def tw1774424618628302304:=0
def tw17725911884753148790:=0
def tw17721753529303712552:=0
def tw17691755784851228868:=0
def tw17689515835662726564:=0
def tw1766765928015329541:=0
def tw1765005400534394111:=0
def tw17578862603511093103:=0
def tw17520576525720572333:=0
def tw17503061738595524033:=0
def tw17498988799973339335:=0
def tw17471629179600232253:=0
def tw17411744880520102840:=0
def tw17411649601494642984:=0
def tw17403723958138345635:=0
def tw17382213601147161622:=0
def tw17370641280890710425:=0
def tw17325448345852202162:=0
def tw17291672732001256344:=0
def tw17254133660371793327:=0
def tw17253527911702524231:=0
def tw17235101366207170682:=0
def tw17163295550071335610:=0
def tw17137774743506257945:=0
def tw17074557556471926170:=0
def tw170620238502592664:=0
def tw17007204454354222380:=0
def tw16950001339317219295:=0
def tw16947490112619288154:=0
def tw16934343741626433414:=0
def tw16916295327116853979:=0
def tw16893803838863995230:=0
def tw16850364055997572064:=0
def tw16768859890285865204:=0
def tw16741190598310168252:=0
def tw16728555306801047151:=0
def tw16702502367490158729:=0
def tw16656810515453592601:=0
def tw16603042902415884871:=0
def tw165470018020128962:=0
def tw16540500592340772575:=0
def tw16518828282509147631:=0
def tw16474988257757794094:=0
def tw16448122125342429385:=0
def tw1634837169140796544:=0
def tw16324793045589748062:=0
def tw16284513242348761982:=0
def tw1626223838125671554:=0
def tw16232105330834921752:=0
def tw16084190338619018969:=0
def tw16056768276507944520:=0
def tw16013194649127607540:=0
def tw15977166216097543551:=0
def tw15965502913928852345:=0
def tw15807262287796133969:=0
def tw15779762843678683217:=0
def tw15777845232114004165:=0
def tw15713959692787487736:=0
def tw15678274088774126220:=0
def tw15669136885321895279:=0
def tw15656415239744862886:=0
def tw15581728133502341614:=0
def tw1553928214916699509:=0
def tw15426863571329831444:=0
def tw15361764408537122717:=0
def tw15345269056668914041:=0
def tw15342891060558227422:=0
def tw15323649803012003744:=0
def tw15308226867192769165:=0
def tw15257630577460271907:=0
def tw15237030125494390502:=0
def tw15193376841457284839:=0
def tw1516574207873518250:=0
def tw15146603734450314555:=0
def tw15128001582712418932:=0
def tw15048662744315975588:=0
def tw15047886213632775182:=0
def tw14977763247412833526:=0
def tw14975568263372777264:=0
def tw14944872115998528042:=0
def tw14898590254382207552:=0
def tw14842806334331524413:=0
def tw14675136372968511711:=0
def tw14674666121167810618:=0
def tw14594449405823950667:=0
def tw14581766485987080542:=0
def tw14563817751967429153:=0
def tw14559159586457712227:=0
def tw1451075282955720388:=0
def tw14453732541864896623:=0
def tw14404060442287183061:=0
def tw14369323612466934308:=0
def tw14364838712981798374:=0
def tw14353541904653713887:=0
def tw14272203464550185420:=0
def tw14271788776891361242:=0
def tw1419301346524699917:=0
def tw14184262196848161080:=0
def tw14143492424848486400:=0
def tw14107797895437312365:=0
def tw14095451450447906476:=0
def tw14025137825388928854:=0
def tw13994081841132930524:=0
def tw13982360874053097269:=0
def tw13973638858649358407:=0
def tw1393598210615159963:=0
def tw13914758565629496388:=0
def tw13899191193580740197:=0
def tw13750545019335624869:=0
def tw13713004806432874972:=0
def tw13708371043147156126:=0
def tw13706033443874115743:=0
def tw136863374549471047:=0
def tw13606560219992376118:=0
def tw13517184771909190915:=0
def tw13494947657974051449:=0
def tw13493153563334459677:=0
def tw1348943389203034618:=0
def tw13482174182202717191:=0
def tw13368183203855923148:=0
def tw13364880101694938360:=0
def tw13356696774357529241:=0
def tw13326059459612964586:=0
def tw13299717071712565716:=0
def tw13264297017441110996:=0
def tw13252699525497911011:=0
def tw13223545688786337759:=0
def tw13185127821879162116:=0
def tw13146005655829193778:=0
def tw13052444523501627755:=0
def tw1305222719174910654:=0
def tw13033839958600322921:=0
def tw13026734995277308931:=0
def tw13007044661241818984:=0
def tw12972306817314674821:=0
def tw12968073832560497824:=0
def tw12925968176565442079:=0
def tw12919816609324877421:=0
def tw12871121380311148201:=0
def tw12857222078297502769:=0
def tw12798559534869164980:=0
def tw12757807427915175631:=0
def tw12755509124303910296:=0
def tw12746110894243520038:=0
def tw12678562371946454369:=0
def tw12676597545484225170:=0
def tw12663291184385277477:=0
def tw12662660914503068689:=0
def tw12654115414802551266:=0
def tw12652050546055136898:=0
def tw12565931450643816623:=0
def tw12515902372339855278:=0
def tw12499050055296472529:=0
def tw12491835947977294982:=0
def tw12456263335835370802:=0
def tw12445198956929953871:=0
def tw12426214828674540646:=0
def tw12404072140495134447:=0
def tw12381953448273201390:=0
def tw12362963287088720480:=0
def tw12338399958228952740:=0
def tw12322280074594753708:=0
def tw12245045621861478175:=0
def tw12201940341059748219:=0
def tw12186366861571705046:=0
def tw12138355424615216631:=0
def tw12136959654571225721:=0
def tw12088445325178261305:=0
def tw12037864081448138085:=0
def tw12034119970791456064:=0
def tw12031419634132563905:=0
def tw11950635372925470297:=0
def tw11949115100705989459:=0
def tw11948983978196798917:=0
def tw11939523717554527725:=0
def tw11907916928890417374:=0
def tw11907344656888620117:=0
def tw11897461482593216044:=0
def tw11847828973916247453:=0
def tw11834063329331605016:=0
def tw11778615174626520189:=0
def tw11668156638856338102:=0
def tw11647157773579429483:=0
def tw11620693775412139338:=0
def tw11594774098262172105:=0
def tw11563532185466155908:=0
def tw11478991099073183507:=0
def tw11424073045409475203:=0
def tw1141607718721143607:=0
def tw11369553285570002163:=0
def tw11366380671346310922:=0
def tw11333905989200439726:=0
def tw11321122415117840775:=0
def tw11267095911951947968:=0
def tw11259811642896609158:=0
def tw11259236815616967834:=0
def tw1119651162300127780:=0
def tw1113037228330611392:=0
def tw11092421698632647498:=0
def tw10993651906511055216:=0
def tw10953327544097345978:=0
def tw10886552837910719143:=0
def tw10873564076734293102:=0
def tw10831240376289610306:=0
def tw10809034186144290983:=0
def tw10806431832489096151:=0
def tw10792363933086538716:=0
def tw10633616260533094692:=0
def tw10609793315186018274:=0
def tw10547341555762806513:=0
def tw10539261168774320831:=0
def tw10384299453889460550:=0
def tw10330485181130209254:=0
def tw10295153209475358962:=0
def tw10280242309469006280:=0
def tw1027270377061773296:=0
def tw10215109097813831227:=0
def tw10199259870120051322:=0
def tw1016402888345805554:=0
def tw10119290919155365658:=0
def tw10095513747768440528:=0
end PySem.W.Fast
open PySem PySem.W PyProof.Rows
set_option maxRecDepth 100000 in
set_option maxHeartbeats 0 in
theorem PySem.Challenge.cw_roadsettings_k36_put_back_holds : PySem.Challenge.rw_roadsettings_k36_put_back.Holds := by
  w_on; o_law; k_head; (case hw => w_witness2)
  k_fill
  refine' K36.walk (l := PySem.Challenge.rw_roadsettings_k36_put_back) (P_z61 := 907) (P_z4 := 270) rfl rfl (fun w h Y => ⟨PySem.W.km_in_of Y, PySem.W.km_tabs_of Y⟩) ?hK ?hP0 ?hP1 (by decide) ?F
  case hP0 => decide
  case hP1 => decide
  case hK =>
    intro w b hb
    simp only [List.mem_cons, List.not_mem_nil, or_false] at hb
    rcases hb with rfl | rfl | rfl
    · exact ⟨by kernel_rfl, 909, by kernel_rfl⟩
    · exact ⟨by kernel_rfl, 274, by kernel_rfl⟩
    · exact ⟨by kernel_rfl, 377, by kernel_rfl⟩
  case F =>
    intro w mg fa h KX G hmg
    refine' K36.all_mk KX G hmg ?_ ?_ ?_ ?_ ?_ ?_ ?_ ?_ ?_ ?_ ?_ ?_ ?_ ?_ ?_ ?_ ?_ ?_ ?_ ?_ ?_ ?_ ?_ ?_ ?_ ?_ ?_ ?_ ?_ ?_ ?_ ?_ ?_ ?_ ?_ ?_ ?_ ?_ ?_ ?_ ?_ ?_ ?_ ?_ ?_ ?_ ?_ ?_ ?_ ?_ ?_ ?_ ?_ ?_ ?_ ?_ ?_ ?_ ?_ ?_ ?_ ?_ ?_ ?_ ?_ ?_ ?_ ?_ ?_ ?_ ?_ ?_ ?_ ?_ ?_ ?_ ?_ ?_ ?_ ?_ ?_ ?_ ?_ ?_ ?_ ?_ ?_ ?_ ?_ ?_ ?_ ?_ ?_ ?_ ?_ ?_ ?_ ?_ ?_ ?_ ?_ ?_ ?_ ?_ ?_ ?_ ?_ ?_ ?_ ?_ ?_ ?_ ?_ ?_ ?_ ?_ ?_ ?_ ?_ ?_ ?_ ?_ ?_ ?_ ?_ ?_ ?_ ?_ ?_ ?_ ?_ ?_ ?_
    all_goals try (first | refine ⟨⟨by k_is, by k_is, by k_is⟩, ⟨_, _, _, _, _, _, _, _, _, rfl, by k_is, by k_is⟩, by k_is⟩ | refine ⟨by k_is, ⟨_, _, _, _, _, _, _, _, _, rfl, by k_is, by k_is⟩, by k_is⟩ | refine ⟨by k_is, ⟨by k_is, by k_is, by k_is, by k_is⟩, by k_is, by k_is⟩ | refine ⟨⟨by k_is, by k_is, by k_is⟩, ⟨_, _, _, _, _, _, _, _, rfl, by k_is, by k_is⟩, by k_is, by kernel_rfl⟩ | refine ⟨by k_is, ⟨_, _, _, _, _, _, _, _, rfl, by k_is, by k_is⟩, by k_is, by kernel_rfl⟩ | (show _ = _; first | k_is | kernel_rfl))
