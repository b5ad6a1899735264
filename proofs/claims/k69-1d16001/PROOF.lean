import PyProof.Rows.All
import Wide.All
import OpenK.AllK
import Wide.FinOn
import Lean
import PyProof.EqAt
import PyProof.EqKinds
import PyProof.TupleCall
import PyProof.AutoListH
import PyProof.ExcBaseAll.ValueError
import PyProof.ExcAttrAll.ValueError
import PyProof.Logic
import PyProof.StrReplace2
import PySem.Challenge.RW_roadsettings_k69_texts_spoilt_anywhere
open PySem.Str renaming ofString→Qa, join→Ge, cps_append→Jl, length→Oo
open PySem.W renaming Frag→Qb, nsIn→QE, mg_none_of→Gg, keepIn→Gk, kia_one→Gm, looks_findIn→Gr, findIn→Gx, kitOne→Gy, Looks→Jg, mg_of→JM, callWith_K→JX, kitx_list→Tu, kitx_dict→Tv, fnOf→SU, kitx_tuple→Rk, methodObj→Rw, cellsFrom_some→Oj, instObj→Oy, OpenLaw→OC, lookIn→ON, kitAny→OS, kitx_float→Nw, codeRec_of→Nx, kitx_none→NN, kitx_bool→NO, plainGet→Mf, kitx_int→Mg, kitx_str→Mh, kitx_own→Mi, kia_tup→MH
open PySem renaming wpAny_bind→Qd, Value→Qe, Shared→Qg, sizeLine→Qi, wpAny_pure→Qk, Program→Qm, FuncData→Qq, wpAny→Qr, boot_len→Qu, mainGlobals→Qx, model→QA, World→QC, starEach→QH, Around→QK, wpAny_field→QN, wpAny_loadPart_at→QQ, wpAny_mono→QY, wpAny_Call_Name_kw→Gc, wpAny_setField_rec→Gf, wpAny_truthy_bool→Gi, wpAny_newObj_type→Gj, wpAny_callSpecial?_slot→Go, wpAny_seqItems→Gq, wpAny_standAt→GC, IsPair→GE, typeLookup→GF, wpAny_holding→GI, compareOp→GO, mem_of_lookup→GT, wpAny_isSubtype_exc→GU, sizeLine_eq→GV, wpAny_call_entry→GW, checkBuiltinCall→GX, wpAny_comprehension_free→GZ, wpAny_getItem_str_slice→Jb, sysModules→Jh, PyData→Ji, backTo→Jp, wpAny_passesOwn→Jr, wpAny_pyIter_list→Jv, foldedSetIterable→Jw, codeAny_call_builtin→JA, excClassObj→JD, wpAny_updateSeq_pair→JE, behindInMarks→JH, wpAny_onRaise→JK, rawInt→JN, IsZip→JP, wpAny_pyIter_zip→JQ, sliceBounds→JU, codeAny_mono→JW, binaryOp→Pb, codeAny→Pf, assign→Pk, bindName→Pm, wpAny_newFunctionEnv→Po, lookup_relabel_local→Pp, intText?→Pr, bootBuiltins→Pu, wpAny_execs_cons→Pw, wpAny_letOwnedTupleGo_zip→PM, assignInOrder→PU, attributeBase→PV, letOwnedTupleGo→Ta, Builtin→Tb, wpAny_rule→Te, wpAny_pyIter_tuple→Tf, wpAny_bindName→Tt, NameKind→Tw, compEnvC→TC, codeAny_compStart_list→TD, wpAny_pyIter_enum→TJ, wpAny_setField→TN, assignEach→Sh, pyNext→Sj, typeIs_str→Sk, call_meets→Sl, wpAny_attempt→Ss, keywordEach→Sy, intText_digits→SD, wpAny_execs_nil→SH, post_val_or_str→SJ, Keyword→SR, call_meetsIn→SV, swapsWith→Rf, builtinsNs→Rh, wpAny_call→Rl, sliceRange→Ro, wpAny_letOwnedTupleGo_enum→Rp, ZipApart→Rq, Model→Rx, wpAny_assign_Name→Ry, slot_list_getitem→Rz, wpAny_Call_method→RA, wpAny_letGo→RB, intText_neg→RE, wpAny_getItem_list_slice→RL, tupleKind→RQ, wpAny_pyNext_enum_itemD→RV, field→RW, wpAny_isInstance→RX, Result→Oh, BindsTo→Oi, wpAny_Call_method_late→Oq, valueAt→Os, wpAny_loadPart'→OD, wpAny_isTrue_Compare1→OE, codeAny_call_function→OF, exec_Assign_Name_used→OH, wpAny_loadName_local→OL, unpackItems→OM, backToKw→OO, newFunctionEnv→OQ, unbindBehindTheSuite→OR, isSubtype_stop→OT, cellsFrom→Nb, callerA→Nc, Fin→Nd, wpAny_loadName_cell→Nf, wpAt_of_wpAny→Nh, swapsWithSole→No, swappedStores→Np, eval_ListComp→Nr, IsPart→Ny, tupleKind_room_in1→NB, wpAny_Constant_str→NE, GenState→NH, holding→NI, wpAny_Assign_Name→NL, seqIndex_neg→NQ, compPost→NU, wpAny_pyHash_str→Md, noFill_tuple_add→Mk, slicePick→Mm, noteFrame→Mn, wpAny_madeBy_exc→Mp, CmpOp→Mw, wpAny_Slice→Mx, seqIndex_of→My, exec_Assign_arm→MA, theTreesLotGoes→MD, codeAny_of_tree→ME, codeAny_builtin→MF, wpAt_bind→MG, spliced→ML, standAt→MM, getItem→MN, relabel→MP, newList→MQ, Paired→MR
open PySem.Heap renaming get?_push_of_some→Qf, lt_size→Qj, get?_push_size→Qn, size_push→Gd, get?_update_other→GS, get?_update_self→Jn, get?_push_cases→JB, size_after_update→TQ, get?_none_of_le→Sv, SameBut→Od, get?_update_ne→Ni, get?_push_at→NX, IsTuple→NZ
open Nat renaming le_refl→Qh, zero_le→Qp, ne_of_lt→Qt, le_trans→Qw, lt_of_lt_of_le→QB, le_add_right→Gp, not_lt_zero→Gv, add_lt_add_iff_left→GP, lt_add_of_pos_right→GQ, ne_of_gt→GY, min_eq_left→Jd, lt_irrefl→JG, not_lt→JJ, min_eq_right→JO, le_succ→JV, lt_of_le_of_lt→JY, mul_one→Tp, le_of_lt→Tq, sub_self→TL, pow_le_pow_right→Sz, sub_zero→SX, lt_succ_self→RY, mul_le_mul_right→OV, add_sub_cancel→NF, lt_or_ge→NT, le_of_eq→NV, lt_succ_of_lt→NW, zero_add→Ma, min_self→Mb, succ_ne_self→Mo, le_max_right→Ms, succ_le_succ→Mu, log2_lt→Mz, le_max_left→MI
open List renaming getElem?_eq_some_iff→Ql, replicate→QI, range→Gs, mem_append_left→Ju, mem_of_mem_drop→JC, replicate_succ'→JF, length→JT, dropLast_eq_take→Pe, take_sublist→Ph, getD_eq_getElem?_getD→Pq, cons_append→Py, getElem_mem→Pz, zipIdx_cons→PJ, extract_eq_take_drop→PN, map_congr_left→PQ, takeWhile_cons→PR, mem_filter→PZ, zipIdx_nil→Tc, filterMap_map→Th, forIn_nil→TU, drop_sublist→TW, dropWhile_sublist→TY, takeWhile_append_dropWhile→TZ, length_replicate→Sa, filterMap_append→Sc, getElem?_reverse→Se, all_cons→So, map_drop→Su, getElem?_set_ne→Sw, length_dropLast→SE, nodup_cons→SI, foldl_cons→SK, takeWhile_append_of_pos→SM, dropWhile_append_of_pos→SN, length_zipWith→SO, mem_map→SY, set_comm→RG, idxOf_lt_length_iff→RP, drop_length→Oa, getElem?_set_self→Oe, map_map→Ou, append_eq_nil_iff→Ow, takeWhile_sublist→Ox, of_mem_zip→Oz, range_succ→OB, count_cons_of_ne→OI, dropLast_sublist→OJ, drop_left→OW, count_cons_self→OX, dropLast_subset→OY, take_succ_cons→Nm, getElem?_drop→ND, count_eq_zero→NG, reverse_cons→NR, countP_cons→Mv
open PySem.F renaming plainAttrs_str→Qo, plainAttrs_list→QG, slot_list_append→QR, type_list_append→QS, slot_str_join→QT, type_str_join→QU, slot_str_split→QX, type_str_split→Gu, slot_zip_next→GK, excBase_ValueError→Jj, slot_tuple_iterator_next→Jm, slot_dict_get→Jo, slot_str_lstrip→JR, type_str_lstrip→JS, typeOf_object_class→Pi, args_zip_next_1→Pj, entry_zip_next→PH, store_ValueError→PY, plainAttrs_dict→Tn, slot_list_index→To, entry_dict_get→Tz, slot_dict_pop→Sb, args_tuple_iterator_next_1→SL, attrBase_ValueError→Ra, entry_tuple_iterator_next→Rb, slot_str_startswith→Rc, type_str_startswith→Re, args_str_split_2→Ru, entry_str_split→RD, args_tuple_add_2→RI, slot_list_extend→RM, type_list_extend→RN, entry_tuple_add→RS, args_dict_pop_3→RT, args_dict_get_3→RU, type_list_index→Ob, slot_list_count→Oc, slot_tuple_add→Ol, entry_dict_pop→Ot, type_dict_get→OG, args_object_init_3→OU, slot_str_getitem→NC, typeCall_zip_2→Mt, newCall_zip_2→MJ, entry_zip_new→MK
open PySem.Txt renaming slice→Qs, split→QF, join→QM, lstripChars→QW, replace→Ja, slice_le→PB, mul→PD
open Bool renaming false_ne_true→Qv, and_eq_true→QL, eq_iff_iff→Jc, false_eq_true→JZ, or_eq_false_iff→Ps, or_false→RK, or_true→Ov, or_eq_true→OA, false_or→Nq, eq_false_iff→Mc
open Or renaming inl→Qy, inr→Rn
open PySem.Value renaming ref→Qz, none→Gb, type→Td, str→Tl, int→Sg, builtin→Sq, bool→Rg, float→OK
open Option renaming map_eq_some_iff→QD, map_some→Js, getD_some→Sn, isSome_iff_exists→RH, getD_none→Ml
open PySem.Builtin.SmallTypes renaming ownedTupleIsFree→QJ, nextOf→QP, ownedTupleHandOut→GH, fitsIndex→Pc
open PyProof.Rows.KTD renaming datumAt→QO
open Array renaming length_toList→QV, getElem?_eq_some_iff→GA, toList_append→GG, getElem?_eq_none→Jf, getElem?_toList→Sd, toList_extract→SA, find?_toList→Nv, toList→NK
open Option.some renaming inj→QZ
open PySem.PassesOwn renaming never→Ga
open False renaming elim→Gh
open ToString renaming toString→Gn
open PyProof.Rows renaming callWith_type1→Gw, assignInOrder_cons→GM, slot_tuple_getitem→JL, split_weight→PP, envOfC→Tg, assignInOrder_nil→Tr, AllBare→SQ, signs_ofString→SZ, subscriptTail→RJ, subscriptTail_builtinR→On, Constant_none→Nn, Subscript_→Nz, isTrue_plain→NJ, unpackItems_tuple→NM, callWith_builtin1→Mj, IntsAre→MO
open PySem.Calls renaming spliced_cons→Gz, callWith_builtin→Je, spliced_nil→Jx, evalArgs_plain→Jy, Name_function_global→Ri, call_len_list→Ng
open PySem.StrLaws renaming join_split→GB, split_free→Tj
open PySem.PyData renaming depthAll→GD, hasDictAll→Jz, depth→PF, hasDict→TH, tuple→TR
open PySem.Obj renaming mapFields→GJ, data_mapFields→Pa, isFreed_of_fields→Sf, mapSeq→Op, cls_mapFields→NY
open True renaming intro→GN
open Ne renaming symm→GR
open Int renaming emod_lt_of_pos→Jk, emod_nonneg→Jt, fdiv_eq_ediv_of_nonneg→Pn, natAbs_natCast→Tk, toNat_natCast→Tx, le_ediv_iff_mul_le→TX, fmod_eq_emod_of_nonneg→Rj, ediv_one→Om
open PySem.Builtin.Slice renaming slicePlaces→Jq, sliceAdjust→PL, sliceApplied→Rm, slicePartIndex→MB
open PySem.Builtin.Tuple renaming tupleExact→JI
open PySem.NameKind renaming free→Pd
open PyProof.Rows.IsTup renaming new→Px
open PySem.Builtin.List renaming listTooLong→PX
open PySem.Code renaming quiet_builtin→Ti, isFrame→NP
open PySem.NumText renaming digitsVal→TM, AllDigits→TV
open PySem.Builtin.ObjectAttr renaming storeInDict→Sm, newKeyGuard→Mq
open PySem.Challenge renaming pw_roadsettings_k69_texts_spoilt_anywhere→Sr
open PySem.Builtin.Str renaming strSliceIndices→SW, occurrences→RZ, strKind→Nl
open PySem.Sem renaming wp→Rt
open Classical renaming byContradiction→Rv
open PySem.Shared renaming heap→RC
open PySem.Paired renaming length→RF
open PyProof renaming noPylong_small→Of
open PySem.Around renaming under→Og, frames_deeper→OP
open Sum renaming inl→OZ, inr→Na
open PySem.EntryCells renaming newEntry→Nj
open PySem.Heap.SameBut renaming update→Nk
open PySem.SeqAt.EqAt renaming int_str→Nt, str_int→Nu
open PySem.Heap.IsSliceOf renaming new→NA
open PySem.Flow renaming next→Me
open PySem.W.Looks renaming ld→Mr
open ForInStep renaming yield→MC
set_option Elab.async false
set_option linter.all false
set_option maxRecDepth 100000
set_option maxHeartbeats 4000000
open List (all_append all_eq_true all_map any_cons append_assoc append_nil contains_cons count_append dropWhile_cons drop_eq_getElem_cons drop_of_length_le drop_succ_cons drop_zero eq_nil_of_length_eq_zero filterMap_cons filter_append filter_cons find?_cons flatMap_cons forIn_cons getElem?_append_left getElem?_append_right getElem?_eq_getElem getElem?_map length_append length_cons length_drop length_filter_le length_map length_nil length_pos_iff length_reverse length_singleton length_take lookup_cons map_append map_cons map_take mem_append mem_append_right mem_cons mem_cons_of_mem mem_cons_self mem_filterMap mem_of_getElem? mem_of_mem_take mem_range mem_singleton not_mem_nil replicate_succ size_toArray sum_cons take_add_one take_append_drop take_length take_of_length_le take_zero)
local macro_rules | `(tactic| omega) => `(tactic| lia)
namespace L2
open PySem PySem.Spec PyProof.Rows
abbrev Ys:=Sum Int Str
def ZaW:Ys->Qe->Bool
 | .inl k,v=>Value.isInt k v
 | .inr x,v=>Value.isStrOf x v
def keyH (w:QC):Ys->Int
 | .inl k=>hashInt k
 | .inr x=>hashStr w x
theorem YZ:∀{k:Ys}{v:Qe},ZaW k v=true->(∃ i t,k=OZ i/\v=Sg i t)\/(∃ x t,k=Na x/\v=Tl x t)
 | .inl i,v,h=>by
  obtain ⟨t,e⟩:=Value.isInt_shape (k:=i) (v:=v) h
  exact .inl ⟨i,t,rfl,e⟩
 | .inr x,v,h=>by
  obtain ⟨t,e⟩:=Value.isStrOf_shape (x:=x) (v:=v) h
  exact .inr ⟨x,t,rfl,e⟩
theorem ZiE (i:Int)(t:Tok):ZaW (.inl i) (.int i t)=true:=by simp [ZaW,Value.isInt]
theorem ZhT (x:Str)(t:Tok):ZaW (.inr x) (.str x t)=true:=by simp [ZaW,Value.isStrOf]
theorem ZnP (a b:Int):decide ((OZ a:Ys)=OZ b)=(a == b):=by
 by_cases e:a=b
 ·subst e;simp
 ·have h:¬ (OZ a:Ys)=OZ b:=fun q=>e (Sum.inl.inj q)
  rw [decide_eq_false h]
  exact (beq_eq_false_iff_ne.mpr e).symm
theorem Zoc (a b:Str):decide ((Na a:Ys)=Na b)=decide (a=b):=by
 by_cases e:a=b
 ·subst e;simp
 ·have h:¬ (Na a:Ys)=Na b:=fun q=>e (Sum.inr.inj q)
  rw [decide_eq_false h,decide_eq_false e]
theorem ZoL (a:Int)(b:Str):decide ((OZ a:Ys)=Na b)=false:=decide_eq_false (fun q=>nomatch q)
theorem ZoF (a:Str)(b:Int):decide ((Na a:Ys)=OZ b)=false:=decide_eq_false (fun q=>nomatch q)
def YK (prog:Qm)(w:QC):PySem.KeyKind prog w Ys where
 is:=ZaW
 hash:=keyH w
 inj := fun v a b ha hb=>by
  rcases YZ ha with ⟨i,t,rfl,rfl⟩ | ⟨x,t,rfl,rfl⟩
  ·rcases YZ hb with ⟨j,u,rfl,e⟩ | ⟨y,u,rfl,e⟩
   ·injection e with e1 _;rw [e1]
   ·exact nomatch e
  ·rcases YZ hb with ⟨j,u,rfl,e⟩ | ⟨y,u,rfl,e⟩
   ·exact nomatch e
   ·injection e with e1 _;rw [e1]
 byValue:=fun k v h=>by
  rcases YZ h with ⟨i,t,rfl,rfl⟩ | ⟨x,t,rfl,rfl⟩<;>rfl
 pyHash:=fun hv h=>by
  rcases YZ hv with ⟨i,t,rfl,rfl⟩ | ⟨x,t,rfl,rfl⟩
  ·exact wpAny_pyHash_int h
  ·exact Md h
 eqBool:=fun hu hv h=>by
  rcases YZ hu with ⟨i,t,rfl,rfl⟩ | ⟨x,t,rfl,rfl⟩
  ·rcases YZ hv with ⟨j,u,rfl,rfl⟩ | ⟨y,u,rfl,rfl⟩
   ·rw [ZnP] at h;exact wpAny_eqBool_int h
   ·rw [ZoL] at h;exact Nt i t y u _ _ _ _ h
  ·rcases YZ hv with ⟨j,u,rfl,rfl⟩ | ⟨y,u,rfl,rfl⟩
   ·rw [ZoF] at h;exact Nu x t j u _ _ _ _ h
   ·rw [Zoc] at h;exact wpAny_eqBool_str h
 «strs»:=fun k x t v h=>by
  rcases YZ h with ⟨i,u,rfl,e⟩ | ⟨y,u,rfl,e⟩
  ·exact nomatch e
  ·injection e with e1 _
   subst e1
   cases v<;>rfl
theorem Zfh (prog:Qm)(w:QC)(i:Int)(t:Tok):(YK prog w).is (.inl i) (.int i t)=true:=ZiE i t
theorem Zfp (prog:Qm)(w:QC)(x:Str)(t:Tok):(YK prog w).is (.inr x) (.str x t)=true:=ZhT x t
inductive V where
 | non | bl (b:Bool) | int (i:Int) | str (x:Str) | byt (b:Array UInt8) | flt (b:UInt64) | ref (a:Addr) | ty (n:String)
 deriving DecidableEq
def RelV:V->Qe->Prop
 | .non,u=>u=Gb
 | .bl b,u=>u=Rg b
 | .int i,u=>∃ t,u=Sg i t
 | .str x,u=>∃ t,u=Tl x t
 | .byt b,u=>∃ t,u=Value.bytes b t
 | .flt b,u=>∃ t,u=OK b t
 | .ref a,u=>u=Qz a
 | .ty n,u=>u=Td n
abbrev Vals:List V->List Qe->Prop:=Paired RelV
theorem Vals.length {xs:List V}{us:List Qe}(r:Vals xs us):xs.length=us.length:=RF r
theorem Vals.get:∀{xs:List V}{us:List Qe}{i:Nat}{x:V},Vals xs us->xs[i]?=some x->∃ u,us[i]?=some u/\RelV x u
 | _,_,_,_,.nil,e=>by simp at e
 | _,_,0,_,.cons r _,e=>by simp at e;subst e;exact ⟨_,rfl,r⟩
 | _,_,i+1,x,.cons _ t,e=>by
  obtain ⟨u,h1,h2⟩:=Vals.get (i:=i) (x:=x) t (by simpa using e)
  exact ⟨u,by simpa using h1,h2⟩
theorem Vals.set {x:V}{u:Qe}(r:RelV x u):∀{xs:List V}{us:List Qe}(i:Nat),Vals xs us->Vals (xs.set i x) (us.set i u)
 | _,_,_,.nil=>.nil
 | _,_,0,.cons _ t=>.cons r t
 | _,_,i+1,.cons q t=>.cons q (Vals.set r i t)
theorem Vals.append:∀{xs ys:List V}{us ws:List Qe},Vals xs us->Vals ys ws->Vals (xs++ys) (us++ws)
 | _,_,_,_,.nil,s=>s
 | _,_,_,_,.cons r t,s=>.cons r (Vals.append t s)
theorem Vals.take:∀{xs:List V}{us:List Qe}(n:Nat),Vals xs us->Vals (xs.take n) (us.take n)
 | _,_,0,_=>.nil
 | _,_,_+1,.nil=>.nil
 | _,_,n+1,.cons r t=>.cons r (Vals.take n t)
theorem Vals.drop:∀{xs:List V}{us:List Qe}(n:Nat),Vals xs us->Vals (xs.drop n) (us.drop n)
 | _,_,0,r=>r
 | _,_,_+1,.nil=>.nil
 | _,_,n+1,.cons _ t=>Vals.drop n t
def RelO:Option V->Option Qe->Prop
 | some v,some u=>RelV v u
 | none,none=>True
 | _,_=>False
def KV {κ:Type}:List (κ×V)->List (κ×Qe)->Prop:=Paired fun (p:κ×V) (q:κ×Qe)=>p.1=q.1/\RelV p.2 q.2
def kV:Ys->V
 | .inl i=>.int i
 | .inr x=>.str x
inductive HO where
 | lst (xs:List V)
 | tup (xs:List V)
 | dK (kvs:List (Ys×V)) | dT (kvs:List (List Ys×V))
 | set (S:Int->Bool) (n:Nat)
 | ins (C dx:Addr) (fs:List (Str×V))
 | own (x:Addr)
 | xd (fs:List (Str×V))
 | met (f x:Addr)
 | rng (lo hi:Int)
 | frz (o:Obj) (u:HO)
 | tbl (ps:Array Qe)
 | ext (φ:Heap->Prop)
abbrev Hp:=Addr->Option HO
def upd (H:Hp)(a:Addr)(o:HO):Hp:=fun b=>if b=a then some o else H b
theorem Ze {H:Hp}{a:Addr}{o:HO}:upd H a o a=some o:=by unfold upd;rw [if_pos rfl]
theorem Zn {H:Hp}{a b:Addr}{o:HO}(h:b≠a):upd H a o b=H b:=by unfold upd;rw [if_neg h]
theorem ZlV {H:Hp}{a:Addr}{o u:HO}:upd (upd H a o) a u=upd H a u:=by
 funext b;unfold upd;split<;>rfl
theorem ZaQ {H:Hp}{a b:Addr}{o u:HO}(h:H a=some o)(h':H b=some u)(d:o≠u):a≠b:=by
 intro e;subst e;rw [h] at h';exact d (QZ h')
theorem ZL {H:Hp}{a b:Addr}{o:HO}(h:H a=some o)(h':H b=none):a≠b:=by
 intro e;subst e;rw [h] at h';cases h'
section
variable (P:Qm)(w:QC)
def ObjOk (H:Hp)(h:Heap)(a:Addr):HO->Prop
 | .lst xs=>xs.length<=Qi/\∃ (its:List Qe) (n:Nat),Vals xs its/\h.get? a=some { cls:=.type "list",data:=.seq its.toArray n }
 | .tup xs=>xs.length<=Qi/\∃ its:List Qe,Vals xs its/\IsTup h a its.toArray
 | .dK kvs=>kvs.length<=Qi/\(a == Jh)=false/\∃ vs,KV kvs vs/\h.DictOf (YK P w) a vs
 | .dT kvs=>kvs.length<=Qi/\(a == Jh)=false/\∃ xs:List (List Ys×Addr×Qe),
     Paired (fun (p:List Ys×V) (q:List Ys×Addr×Qe)=>p.1=q.1/\H q.2.1=some (.tup (p.1.map kV))/\RelV p.2 q.2.2) kvs xs /\
     ∃ o es ep,h.get? a=some o/\o.ExactDict/\o.data=.dict es ep/\es.toList=xs.map (entryOfKey (RQ (YK P w)))/\(xs.map (·.1)).Nodup
 | .set S n=>h.SetOf (intKind P w) a S n
 | .ins C dx fs=>H dx=some (.own a)/\fs.length<=1000/\dx≠a/\h.get? a=some (Oy C dx) /\
     ∃ mA,h.Ns1 dx mA/\(∀ f,RelO (fs.lookup f) (mA f))/\PySem.Within mA (fs.map (·.1))
 | .own _=>∃ o,h.get? a=some o
 | .xd fs=>∃ mA,h.Ns1 a mA/\∀ f,RelO (fs.lookup f) (mA f)
 | .rng lo hi=>∃ t u v,h.get? a=some { cls:=.type "range",data:=.fields #[.int lo t,.int hi u,.int 1 v] }
 | .frz o u=>h.get? a=some o/\ObjOk H h a u
 | .tbl ps=>h.get? a=some { cls:=.none,data:=.fields ps }
 | .met f x=>h.get? a=some (Rw (.ref f) (.ref x))
 | .ext φ=>φ h/\(∃ o,h.get? a=some o)/\∀ h1 h2:Heap,φ h1->(∀ o,h1.get? a=some o->h2.get? a=some o)->φ h2
def HOk (H:Hp)(h:Heap):Prop:=∀ a o,H a=some o->ObjOk P w H h a o
end
section
variable {P:Qm}{w:QC}{H H':Hp}{h h':Heap}{a:Addr}{o:HO}
theorem ObjOk.lt (x:ObjOk P w H h a o):a < h.objs.size:=by
 cases o with
 | lst xs=>obtain ⟨_,_,_,_,e⟩:=x;exact Qj e
 | tup xs=>obtain ⟨_,_,_,p⟩:=x;exact p.lt
 | dK kvs=>obtain ⟨_,_,_,_,o,_,_,e,_⟩:=x;exact Qj e
 | dT kvs=>obtain ⟨_,_,_,_,o,_,_,e,_⟩:=x;exact Qj e
 | set S n=>obtain ⟨o,_,_,_,e,_⟩:=x;exact Qj e
 | ins C dx fs=>obtain ⟨_,_,_,e,_⟩:=x;exact Qj e
 | own y=>obtain ⟨_,e⟩:=x;exact Qj e
 | xd fs=>obtain ⟨_,⟨_,_,_,e,_⟩,_⟩:=x;exact Qj e
 | rng lo hi=>obtain ⟨_,_,_,e⟩:=x;exact Qj e
 | frz ob u=>obtain ⟨e,_⟩:=x;exact Qj e
 | tbl ps=>exact Qj (show h.get? a=some _ from x)
 | met f y=>exact Qj (show h.get? a=some _ from x)
 | ext φ=>obtain ⟨_,⟨_,e⟩,_⟩:=x;exact Qj e
theorem MR.mapP {α β:Type}{F G:α->β->Prop}:∀{l₁:List α}{l₂:List β},Paired F l₁ l₂->(∀ a b,F a b->G a b)->Paired G l₁ l₂
 | _,_,.nil,_=>.nil
 | _,_,.cons r t,f=>.cons (f _ _ r) (MR.mapP t f)
theorem ObjOk.stay (x:ObjOk P w H h a o)(k:∀ b u,(b=a\/H b=some (.own a))->h.get? b=some u->h'.get? b=some u)
 (ho:∀ b,H b=some (.own a)->H' b=some (.own a)) (ht:∀ b xs,H b=some (.tup xs)->H' b=some (.tup xs)):ObjOk P w H' h' a o:=by
 induction o with
 | lst xs=>obtain ⟨z,its,n,r,e⟩:=x;exact ⟨z,its,n,r,k _ _ (.inl rfl) e⟩
 | tup xs=>obtain ⟨z,its,r,ob,e,c⟩:=x;exact ⟨z,its,r,ob,k _ _ (.inl rfl) e,c⟩
 | dK kvs=>obtain ⟨z,y,vs,r,ob,es,ep,e,c⟩:=x;exact ⟨z,y,vs,r,ob,es,ep,k _ _ (.inl rfl) e,c⟩
 | dT kvs =>
  obtain ⟨z,y,xs,r,ob,es,ep,e,c⟩:=x
  exact ⟨z,y,xs,MR.mapP r fun p q z=>⟨z.1,ht _ _ z.2.1,z.2.2⟩,ob,es,ep,k _ _ (.inl rfl) e,c⟩
 | set S n=>obtain ⟨ob,es,ep,t,e,c⟩:=x;exact ⟨ob,es,ep,t,k _ _ (.inl rfl) e,c⟩
 | ins C dx fs =>
  obtain ⟨d,z,ne,e,mA,⟨od,es,ep,e2,c⟩,r⟩:=x
  exact ⟨ho _ d,z,ne,k _ _ (.inl rfl) e,mA,⟨od,es,ep,k _ _ (.inr d) e2,c⟩,r⟩
 | own y=>obtain ⟨ob,e⟩:=x;exact ⟨ob,k _ _ (.inl rfl) e⟩
 | xd fs=>obtain ⟨mA,⟨od,es,ep,e,c⟩,r⟩:=x;exact ⟨mA,⟨od,es,ep,k _ _ (.inl rfl) e,c⟩,r⟩
 | rng lo hi=>obtain ⟨t,u,v,e⟩:=x;exact ⟨t,u,v,k _ _ (.inl rfl) e⟩
 | frz ob u ih=>obtain ⟨e,q⟩:=x;exact ⟨k _ _ (.inl rfl) e,ih q⟩
 | tbl ps =>
  have e:h.get? a=some { cls:=.none,data:=.fields ps }:=x
  show h'.get? a=some { cls:=.none,data:=.fields ps }
  exact k a _ (.inl rfl) e
 | met f y =>
  have e:h.get? a=some (Rw (.ref f) (.ref y)):=x
  show h'.get? a=some (Rw (.ref f) (.ref y))
  exact k a _ (.inl rfl) e
 | ext φ=>obtain ⟨p,⟨o,e⟩,st⟩:=x;exact ⟨st _ _ p fun o q=>k _ _ (.inl rfl) q,⟨o,k _ _ (.inl rfl) e⟩,st⟩
theorem HOk.lt (x:HOk P w H h)(e:H a=some o):a < h.objs.size:=(x a o e).lt
theorem HOk.fresh (x:HOk P w H h)(e:h.objs.size<=a):H a=none:=by
 cases q:H a with
 | none=>rfl
 | some u=>exact absurd (QB (x.lt q) e) (JG _)
theorem HOk.kept (x:HOk P w H h)(k:∀ b u,h.get? b=some u->h'.get? b=some u):HOk P w H h':=fun a o e =>
 (x a o e).stay (fun b u _ q=>k b u q) (fun _ q=>q) fun _ _ q=>q
theorem HOk.laid (x:HOk P w H h)(k:∀ b u,h.get? b=some u->h'.get? b=some u)(hp:h.objs.size<=a)(new:ObjOk P w (upd H a o) h' a o):HOk P w (upd H a o) h':=fun b u e=>by
 have hn:=x.fresh hp
 by_cases hb:b=a
 ·subst hb;rw [Ze] at e;cases e;exact new
 ·rw [Zn hb] at e
  exact (x b u e).stay (fun c v _ q=>k c v q) (fun c q=>by rw [Zn (ZL q hn)];exact q) fun c xs q=>by rw [Zn (ZL q hn)];exact q
end
def Rd (H:Hp)(a:Addr)(u:HO):Prop:=H a=some u\/∃ o,H a=some (.frz o u)
theorem Rd.ok {P:Qm}{w:QC}{H:Hp}{h:Heap}{a:Addr}{u:HO}(r:Rd H a u)(x:HOk P w H h):ObjOk P w H h a u:=by
 rcases r with r | ⟨o,r⟩
 ·exact x a u r
 ·obtain ⟨_,q⟩:=x a _ r
  exact q
def Mut:Option HO->Prop
 | some (.lst _)=>True
 | some (.dK _)=>True
 | some (.dT _)=>True
 | some (.set _ _)=>True
 | some (.ins _ _ _)=>True
 | some (.ext _)=>True
 | _=>False
section
variable {P:Qm}{w:QC}{H:Hp}{h h':Heap}{x e:Addr}{o':HO}
theorem HOk.write (ok:HOk P w H h)(mu:Mut (H x))(he:e=x\/H e=some (.own x))(k:∀ b u,b≠e->h.get? b=some u->h'.get? b=some u)(heo:∃ u,h'.get? e=some u)
 (new:ObjOk P w (upd H x o') h' x o'):HOk P w (upd H x o') h':=fun b u q=>by
 have nown:∀ c y,H c=some (.own y)->c≠x:=fun c y r z=>by subst z;rw [r] at mu;exact mu
 have ntup:∀ c xs,H c=some (.tup xs)->c≠x:=fun c xs r z=>by subst z;rw [r] at mu;exact mu
 by_cases hb:b=x
 ·subst hb;rw [Ze] at q;cases q;exact new
 ·rw [Zn hb] at q
  by_cases hbe:b=e
  ·have q':H b=some (.own x):=by
    rcases he with z | z
    ·exact absurd (hbe.trans z) hb
    ·rw [hbe];exact z
   rw [q] at q';cases q'
   obtain ⟨v,hv⟩:=heo
   exact ⟨v,by rw [hbe];exact hv⟩
  ·refine (ok b u q).stay (fun c v hc r=>k c v ?_ r) (fun c r=>by rw [Zn (nown c b r)];exact r) fun c xs r=>by rw [Zn (ntup c xs r)];exact r
   rcases hc with rfl | hc
   ·exact hbe
   ·rintro rfl
    rcases he with z | z
    ·exact nown c b hc z
    ·rw [hc] at z;cases z;exact hb rfl
end
structure Un (fs ex:List Addr)(H H':Hp)(h h':Heap):Prop where
 keep:∀ b o,h.get? b=some o->H b=none->b ∉ fs->b ∉ ex->h'.get? b=some o
 slot:∀ b o,h.get? b=some o->H b=none->b∈fs->b ∉ ex->∃ sl,h'.get? b=some { o with slots:=sl }
 free:∀ b o,h.get? b=some o->H b=none->b ∉ ex->H' b=none
 there:∀ b o,h.get? b=some o->b ∉ ex->∃ o',h'.get? b=some o'
 tups:∀ b xs,H b=some (.tup xs)->H' b=some (.tup xs)
 frzs:∀ b o u,H b=some (.frz o u)->H' b=some (.frz o u)
 tbls:∀ b ps,H b=some (.tbl ps)->∃ more,H' b=some (.tbl (ps++more))
section
variable {fs fs' ex ex':List Addr}{H H1 H2:Hp}{h h1 h2 h':Heap}{a x e:Addr}{o:HO}
theorem Un.any (u:Un fs ex H H1 h h1){b:Addr}{ob:Obj}(q:h.get? b=some ob)(n:H b=none)(hx:b ∉ ex):∃ sl,h1.get? b=some { ob with slots:=sl }:=by
 by_cases hb:b∈fs
 ·exact u.slot b ob q n hb hx
 ·exact ⟨ob.slots,u.keep b ob q n hb hx⟩
theorem Un.kept (k:∀ b u,h.get? b=some u->h'.get? b=some u):Un fs ex H H h h' :=
 ⟨fun b ob q _ _ _=>k b ob q,fun b ob q _ _ _=>⟨ob.slots,k b ob q⟩,fun _ _ _ n _=>n,fun b ob q _=>⟨ob,k b ob q⟩,fun _ _ q=>q,fun _ _ _ q=>q,fun _ ps q=>⟨#[],by rw [q];simp⟩⟩
theorem Un.refl:Un fs ex H H h h:=Un.kept fun _ _ q=>q
theorem Un.laid (k:∀ b u,h.get? b=some u->h'.get? b=some u)(hp:h.objs.size<=a)(hn:H a=none):Un fs ex H (upd H a o) h h' where
 keep:=fun b u q _ _ _=>k b u q
 slot:=fun b u q _ _ _=>⟨u.slots,k b u q⟩
 free:=fun b u q n _=>by rw [Zn (Qt (QB (Qj q) hp))];exact n
 there:=fun b u q _=>⟨u,k b u q⟩
 tups:=fun b xs q=>by rw [Zn (ZL q hn)];exact q
 frzs:=fun b u xs q=>by rw [Zn (ZL q hn)];exact q
 tbls:=fun b ps q=>⟨#[],by rw [Zn (ZL q hn),q];simp⟩
theorem Un.write (mu:Mut (H x))(he:e=x\/H e=some (.own x))(k:∀ b u,b≠e->h.get? b=some u->h'.get? b=some u)(heo:∃ u,h'.get? e=some u):Un fs ex H (upd H x o) h h':=by
 have hx:∀ b,H b=none->b≠x:=fun b n z=>by subst z;rw [n] at mu;exact mu
 have hb:∀ b,H b=none->b≠e:=fun b n z=>by
  subst z
  rcases he with r | r
  ·exact hx b n r
  ·rw [n] at r;cases r
 have hm:∀ b u,H b=some u->¬ Mut (some u)->b≠x:=fun b u q nm z=>by subst z;rw [q] at mu;exact nm mu
 refine ⟨fun b u q n _ _=>k b u (hb b n) q,fun b u q n _ _=>⟨u.slots,k b u (hb b n) q⟩,fun b u q n _=>by rw [Zn (hx b n)];exact n,fun b u q _=>?_,
  fun b xs q=>by rw [Zn (hm b _ q fun z=>z)];exact q,fun b u xs q=>by rw [Zn (hm b _ q fun z=>z)];exact q,fun b ps q=>⟨#[],by rw [Zn (hm b _ q fun z=>z),q];simp⟩⟩
 by_cases hbe:b=e
 ·subst hbe;exact heo
 ·exact ⟨u,k b u hbe q⟩
end
def trk (h:Heap)(H:Hp):List Addr:=(Gs h.objs.size).filter fun a=>(H a).isSome
def Vx (h:Heap)(H:Hp):Heap:=PySem.W.hideAll h (trk h H)
theorem ZiT (h:Heap)(H:Hp):(Vx h H).objs.size=h.objs.size:=PySem.W.hideAll_size _ _
theorem Zjw {h:Heap}{H:Hp}{b:Addr}{o:Obj}(e:h.get? b=some o)(n:H b=none):(Vx h H).get? b=some o :=
 PySem.W.hideAll_get _ e fun hm=>by
  have q:(H b).isSome=true:=(PZ.mp hm).2
  rw [n] at q;simp at q
theorem Znd {h:Heap}{H:Hp}{b:Addr}{o:Obj}(e:(Vx h H).get? b=some o):h.get? b=some o/\H b=none:=by
 have e':h.get? b=some o:=PySem.W.of_hideAll (trk h H) e
 refine ⟨e',?_⟩
 cases q:H b with
 | none=>rfl
 | some x =>
  have hm:b∈trk h H:=PZ.mpr ⟨mem_range.mpr (Qj e'),by simp [q]⟩
  have z:(Vx h H).get? b=none:=PySem.W.hideAll_none (trk h H) hm
  rw [z] at e;cases e
structure Mod (K:Qb)(mg:Str->Option Qe)(base:Heap):Prop where
 kin:K.In base
 glob:base.Ns Qx mg
 blt:∃ mb,base.Ns Rh mb/\∀ x:Str,x≠"__name__"->mb x=Pu x
 nolimit:base.NoLimit
structure Cx where
 prog:Qm
 w:QC
 K:Qb
 mg:Str->Option Qe
 base:Heap
 A:QK
 N:List Str
 s₀:Qg
 H₀:Hp
 env:Env
 outer:List Env
 stack:List Env
 ex:List Addr
 fn:Str->Bool
 calm:Bool
 pn:List (Addr×Obj)
 xe:Qe->Qg->Prop
def XY (l:List Env):List Addr:=l.filterMap (·.frame)
abbrev Cx.fs (X:Cx):List Addr:=XY X.outer
def Vis (sc:Scope)(x:Str):Prop:=sc.names.lookup x=some .local\/sc.names.lookup x=some .cell\/sc.names.lookup x=some .free
def Loc (sc:Scope)(x:Str):Prop:=sc.names.lookup x=some .local\/sc.names.lookup x=some .cell
def Look (env:Env)(h:Heap)(m:Str->Option Qe)(x:Str)(u:Qe):Prop :=
 (env.kindOf x=some .local/\m x=some u)\/((env.kindOf x=some .cell\/env.kindOf x=some .free)/\∃ c,env.cells.lookup x=some c/\h.IsCell c (some u))
structure Cx.Ok (X:Cx):Prop where
 mod:Mod X.K X.mg X.base
 kind:X.env.scope.kind=.function
 glob:X.env.globals=Qx
 blt:X.env.builtins=Rh
 above:X.s₀.heap.objs.size<=X.env.locals
 inj:∀ x y c,X.env.cells.lookup x=some c->X.env.cells.lookup y=some c->x=y
 has:∀ x,(X.env.kindOf x=some .cell\/X.env.kindOf x=some .free)->∃ c,X.env.cells.lookup x=some c
 cab:∀ x c,X.fn x=true->X.env.cells.lookup x=some c->X.s₀.heap.objs.size<=c
 hd:X.calm=true->X.A.handled=none
 frames:X.A.frames=some X.stack
 stk:X.stack=X.outer\/(X.stack=X.env::X.outer/\X.env.frame=some X.env.locals)
 exf:∀ b∈X.ex,b≠X.env.locals/\∀ x c,X.env.cells.lookup x=some c->c≠b
 bs:∀ b o,X.base.get? b=some o->X.s₀.heap.get? b=some o/\X.H₀ b=none
 bsz:X.base.objs.size<=X.s₀.heap.objs.size
 noex:∀ b o,X.base.get? b=some o->b ∉ X.ex
 exfs:∀ b∈X.ex,b ∉ X.fs
 funs:X.s₀.heap.FunFrames X.base X.outer
 frf:∀ b∈X.fs,X.H₀ b=none
structure Inv (X:Cx)(pins:List (Addr×Obj))(σ:List (Option V))(H:Hp)(s:Qg):Prop where
 ok:X.Ok
 os:s.os=X.s₀.os
 bare:SQ s.gens
 base:Un X.fs X.ex X.H₀ H X.s₀.heap s.heap
 loc:∃ m,s.heap.Ns X.env.locals m/\∀ (i:Nat) (x:Str) (v:V),X.N[i]?=some x->σ[i]?=some (some v)->Vis X.env.scope x->∃ u,RelV v u/\Look X.env s.heap m x u
 cell:∀ x c,X.env.cells.lookup x=some c->∃ v,s.heap.IsCell c v
 free:H X.env.locals=none
 freeC:∀ x c,X.env.cells.lookup x=some c->H c=none
 pin:∀ p∈X.pn++pins,s.heap.get? p.1=some p.2/\H p.1=none/\p.1≠X.env.locals/\p.1 ∉ X.fs/\∀ v,p.2.data≠.cell v
 hok:HOk X.prog X.w H s.heap
 len:σ.length=X.N.length
section
variable {X:Cx}{pins:List (Addr×Obj)}{σ:List (Option V)}{H H':Hp}{s:Qg}{h':Heap}
theorem Cx.Ok.nofr (ok:X.Ok){b:Addr}{o:Obj}(e:X.base.get? b=some o):b ∉ X.fs:=fun hb=>by
 have:=(ok.funs.mem hb).1
 rw [e] at this;cases this
theorem Inv.bs (I:Inv X pins σ H s):∀ b o,X.base.get? b=some o->s.heap.get? b=some o/\H b=none:=fun b o e =>
 ⟨I.base.keep b o (I.ok.bs b o e).1 (I.ok.bs b o e).2 (I.ok.nofr e) (I.ok.noex b o e),I.base.free b o (I.ok.bs b o e).1 (I.ok.bs b o e).2 (I.ok.noex b o e)⟩
theorem Inv.bk (I:Inv X pins σ H s):∀ b o,X.base.get? b=some o->s.heap.get? b=some o:=fun b o e=>(I.bs b o e).1
theorem Inv.mod (I:Inv X pins σ H s):Mod X.K X.mg X.base:=I.ok.mod
theorem Inv.kIn (I:Inv X pins σ H s):X.K.In s.heap:=I.ok.mod.kin.keeps I.bk
theorem Inv.nolimit (I:Inv X pins σ H s):s.heap.NoLimit:=I.ok.mod.nolimit.keeps I.bk
theorem Inv.lt (I:Inv X pins σ H s):X.env.locals < s.heap.objs.size:=let ⟨_,hn,_⟩:=I.loc;hn.lt
theorem Inv.sz (I:Inv X pins σ H s):X.s₀.heap.objs.size<=s.heap.objs.size:=Qw I.ok.above (Tq I.lt)
theorem Inv.nofs (I:Inv X pins σ H s){a:Addr}(h:s.heap.objs.size<=a):a ∉ X.fs:=fun hb=>by
 obtain ⟨_,o,ho,_⟩:=I.ok.funs.mem hb
 exact absurd (QB (Qj ho) (Qw I.sz h)) (JG _)
theorem Inv.cne (I:Inv X pins σ H s):∀ x c,X.env.cells.lookup x=some c->c≠X.env.locals:=fun x c e z=>by
 obtain ⟨v,o,ho,hd⟩:=I.cell x c e
 obtain ⟨m,⟨o',es,ep,ho',hd',_⟩,_⟩:=I.loc
 rw [z,ho'] at ho;cases ho;rw [hd'] at hd;cases hd
theorem Inv.funs (I:Inv X pins σ H s):s.heap.FunFrames X.base X.outer:=by
 have all:∀ (l:List Env),(∀ b∈XY l,b∈X.fs)->X.s₀.heap.FunFrames X.base l->s.heap.FunFrames X.base l:=by
  intro l
  induction l with
  | nil=>intro _ _;trivial
  | cons env r ih =>
   intro hs hl
   obtain ⟨hk,⟨L,o,hf,hn,ho,hd⟩,hr⟩:=hl
   have hL:L∈X.fs:=hs L (by unfold XY;rw [filterMap_cons,hf];exact mem_cons_self)
   obtain ⟨sl,e⟩:=I.base.slot L o ho (I.ok.frf L hL) hL fun z=>I.ok.exfs L z hL
   exact ⟨hk,⟨L,_,hf,hn,e,hd⟩,ih (fun b hb=>hs b (by unfold XY;rw [filterMap_cons,hf];exact mem_cons_of_mem _ hb)) hr⟩
 exact all X.outer (fun _ hb=>hb) I.ok.funs
theorem Inv.stack (I:Inv X pins σ H s):s.heap.FunFrames X.base X.stack:=by
 rcases I.ok.stk with e | ⟨e,hf⟩
 ·rw [e];exact I.funs
 ·rw [e]
  obtain ⟨m,hn,_⟩:=I.loc
  refine .cons (by rw [I.ok.kind];decide) hf hn ?_ I.funs
  exact Sv (Qw I.ok.bsz I.ok.above)
theorem Inv.stkSub (I:Inv X pins σ H s):∀ b∈XY X.stack,b∈X.env.locals::X.fs:=fun b hb=>by
 rcases I.ok.stk with e | ⟨e,hf⟩
 ·rw [e] at hb;exact mem_cons_of_mem _ hb
 ·rw [e] at hb
  unfold XY at hb
  rw [filterMap_cons,hf] at hb
  exact hb
theorem Inv.stkFree (I:Inv X pins σ H s):∀ b∈XY X.stack,H b=none:=fun b hb=>by
 rcases mem_cons.mp (I.stkSub b hb) with e | hb
 ·rw [e];exact I.free
 ·obtain ⟨_,o,ho,_⟩:=I.ok.funs.mem hb
  exact I.base.free b o ho (I.ok.frf b hb) fun z=>I.ok.exfs b z hb
theorem Inv.step {g':Array NH}{t':Nat}{d':Drawn}{ch:List Addr}(I:Inv X pins σ H s)
 (hch:∀ b∈ch,(b∈X.ex\/X.s₀.heap.objs.size<=b)/\b≠X.env.locals/\(∀ x c,X.env.cells.lookup x=some c->c≠b)/\∀ p∈X.pn++pins,p.1≠b)
 (keep:∀ b o,b≠X.env.locals->b ∉ X.fs->b ∉ ch->s.heap.get? b=some o->H b=none->h'.get? b=some o)
 (slot:∀ b o,b≠X.env.locals->b∈X.fs->b ∉ ch->s.heap.get? b=some o->H b=none->∃ sl,h'.get? b=some { o with slots:=sl }) (free:∀ b o,b ∉ ch->s.heap.get? b=some o->H b=none->H' b=none)
 (there:∀ b o,b ∉ ch->s.heap.get? b=some o->∃ o',h'.get? b=some o')
 (tups:∀ b xs,H b=some (.tup xs)->H' b=some (.tup xs)) (frzs:∀ b o u,H b=some (.frz o u)->H' b=some (.frz o u)) (tbls:∀ b ps,H b=some (.tbl ps)->∃ more,H' b=some (.tbl (ps++more)))
 (ns:∀ m,s.heap.Ns X.env.locals m->h'.Ns X.env.locals m) (hok:HOk X.prog X.w H' h') (hg:SQ g') :
 Inv X pins σ H' { s with heap:=h',gens:=g',drawn:=d',toks:=t' }:=by
 have neL:∀ b o,X.s₀.heap.get? b=some o->b≠X.env.locals:=fun b o e=>Qt (QB (Qj e) I.ok.above)
 have neC:∀ b o,X.s₀.heap.get? b=some o->b ∉ X.ex->b ∉ ch:=fun b o e hx hb=>by
  rcases (hch b hb).1 with z | z
  ·exact hx z
  ·exact absurd (QB (Qj e) z) (JG _)
 have cellK:∀ x c,X.env.cells.lookup x=some c->∀ v,s.heap.IsCell c v->h'.IsCell c v:=fun x c e v ⟨o,ho,hd⟩=>by
  have nch:c ∉ ch:=fun z=>(hch c z).2.2.1 x c e rfl
  by_cases hc:c∈X.fs
  ·obtain ⟨sl,q⟩:=slot c o (I.cne x c e) hc nch ho (I.freeC x c e)
   exact ⟨_,q,hd⟩
  ·exact ⟨o,keep c o (I.cne x c e) hc nch ho (I.freeC x c e),hd⟩
 refine ⟨I.ok,I.os,hg,⟨fun b o e n hb hx=>?_,fun b o e n hb hx=>?_,fun b o e n hx=>?_,fun b o e hx=>?_,fun b xs e=>tups b xs (I.base.tups b xs e),fun b o xs e=>frzs b o xs (I.base.frzs b o xs e),fun b ps e=>?_⟩,?_,fun x c e=>?_,?_,fun x c e=>?_,fun p hp=>?_,hok,I.len⟩
 ·exact keep b o (neL b o e) hb (neC b o e hx) (I.base.keep b o e n hb hx) (I.base.free b o e n hx)
 ·obtain ⟨sl,e1⟩:=I.base.slot b o e n hb hx
  obtain ⟨sl',e2⟩:=slot b _ (neL b o e) hb (neC b o e hx) e1 (I.base.free b o e n hx)
  exact ⟨sl',e2⟩
 ·obtain ⟨o',e1⟩:=I.base.there b o e hx
  exact free b o' (neC b o e hx) e1 (I.base.free b o e n hx)
 ·obtain ⟨o',e1⟩:=I.base.there b o e hx
  exact there b o' (neC b o e hx) e1
 ·obtain ⟨m1,e1⟩:=I.base.tbls b ps e
  obtain ⟨m2,e2⟩:=tbls b _ e1
  exact ⟨m1++m2,by rw [e2,Array.append_assoc]⟩
 ·obtain ⟨m,hn,hl⟩:=I.loc
  refine ⟨m,ns m hn,fun i x v e1 e2 e3=>?_⟩
  obtain ⟨u,r,l⟩:=hl i x v e1 e2 e3
  refine ⟨u,r,?_⟩
  rcases l with l | ⟨k,c,e,z⟩
  ·exact .inl l
  ·exact .inr ⟨k,c,e,cellK x c e _ z⟩
 ·obtain ⟨v,z⟩:=I.cell x c e
  exact ⟨v,cellK x c e v z⟩
 ·obtain ⟨m,⟨o,_,_,ho,_⟩,_⟩:=I.loc
  exact free _ o (fun z=>(hch _ z).2.1 rfl) ho I.free
 ·obtain ⟨v,o,ho,hd⟩:=I.cell x c e
  exact free c o (fun z=>(hch c z).2.2.1 x c e rfl) ho (I.freeC x c e)
 ·obtain ⟨e,n,ne,nf,d⟩:=I.pin p hp
  have nch:p.1 ∉ ch:=fun z=>(hch p.1 z).2.2.2 p hp rfl
  exact ⟨keep p.1 p.2 ne nf nch e n,free p.1 p.2 nch e n,ne,nf,d⟩
theorem Inv.un {t':Nat}(I:Inv X pins σ H s)(u:Un X.fs [] H H' s.heap h')(hok:HOk X.prog X.w H' h'):Inv X pins σ H' { s with heap:=h',toks:=t' }:=by
 obtain ⟨m,⟨o,es,ep,ho,r⟩,_⟩:=id I.loc
 obtain ⟨sl,hL⟩:=u.any ho I.free (by simp)
 exact I.step (g':=s.gens) (d':=s.drawn) (ch:=[]) (fun _ z=>nomatch z) (fun b o _ hb _ e n=>u.keep b o e n hb (by simp)) (fun b o _ hb _ e n=>u.slot b o e n hb (by simp)) (fun b o _ e n=>u.free b o e n (by simp)) (fun b o _ e=>u.there b o e (by simp)) u.tups u.frzs u.tbls (fun m' hm=>by
  obtain ⟨o',es',ep',ho',r'⟩:=hm
  rw [ho] at ho';cases ho'
  exact ⟨_,es',ep',hL,r'⟩) hok I.bare
theorem Inv.call {g':Array NH}{t':Nat}{d':Drawn}{ch:List Addr}(I:Inv X pins σ H s)(u:Un (XY X.stack) ch H H' s.heap h')(hok:HOk X.prog X.w H' h')(hg:SQ g')
 (hch:∀ b∈ch,(b∈X.ex\/X.s₀.heap.objs.size<=b)/\b≠X.env.locals/\(∀ x c,X.env.cells.lookup x=some c->c≠b)/\∀ p∈X.pn++pins,p.1≠b) :
 Inv X pins σ H' { s with heap:=h',gens:=g',drawn:=d',toks:=t' }:=by
 obtain ⟨m,⟨o,es,ep,ho,r⟩,_⟩:=id I.loc
 obtain ⟨sl,hL⟩:=u.any ho I.free fun z=>(hch _ z).2.1 rfl
 exact I.step (ch:=ch) hch (fun b o hL hb hc e n=>u.keep b o e n (fun z=>(mem_cons.mp (I.stkSub b z)).elim hL hb) hc) (fun b o _ _ hc e n=>u.any e n hc) (fun b o hc e n=>u.free b o e n hc) (fun b o hc e=>u.there b o e hc) u.tups u.frzs u.tbls (fun m' hm=>by
  obtain ⟨o',es',ep',ho',r'⟩:=hm
  rw [ho] at ho';cases ho'
  exact ⟨_,es',ep',hL,r'⟩) hok hg
theorem Inv.turned {t':Nat}{it:Addr}(I:Inv X pins σ H s)(k:∀ b o,b≠it->s.heap.get? b=some o->h'.get? b=some o)(hn:H it=none)(hL:it≠X.env.locals)
 (h1:it∈X.ex\/X.s₀.heap.objs.size<=it) (h2:∀ x c,X.env.cells.lookup x=some c->c≠it) (h3:∀ p∈X.pn++pins,p.1≠it):Inv X pins σ H { s with heap:=h',toks:=t' }:=by
 have nit:∀ b u,H b=some u->b≠it:=fun b u e z=>by rw [z,hn] at e;cases e
 refine I.step (g':=s.gens) (d':=s.drawn) (ch:=[it]) (fun b hb=>?_) (fun b o _ _ hc e _=>k b o (fun z=>hc (by simp [z])) e) (fun b o _ _ hc e _=>⟨o.slots,k b o (fun z=>hc (by simp [z])) e⟩) (fun _ _ _ _ n=>n)
  (fun b o hc e=>⟨o,k b o (fun z=>hc (by simp [z])) e⟩) (fun _ _ e=>e) (fun _ _ _ e=>e) (fun b ps e=>⟨#[],by rw [e];simp⟩) (fun m hm=>?_) (fun b u e=>?_) I.bare
 ·have e:b=it:=by simpa using hb
  subst e
  exact ⟨h1,hL,h2,h3⟩
 ·obtain ⟨o,es,ep,ho,r⟩:=hm
  exact ⟨o,es,ep,k _ o (GR hL) ho,r⟩
 ·refine (I.hok b u e).stay (fun c v hc q=>k c v ?_ q) (fun _ q=>q) fun _ _ q=>q
  rcases hc with z | z
  ·rw [z];exact nit b u e
  ·exact nit c _ z
theorem Inv.tok (I:Inv X pins σ H s)(t:Nat):Inv X pins σ H { s with toks:=t }:=I.un (h':=s.heap) (t':=t) Un.refl I.hok
theorem Inv.kept {t':Nat}(I:Inv X pins σ H s)(k:∀ b u,s.heap.get? b=some u->h'.get? b=some u):Inv X pins σ H { s with heap:=h',toks:=t' }:=I.un (Un.kept k) (I.hok.kept k)
theorem Inv.laid {a:Addr}{o:HO}{t':Nat}(I:Inv X pins σ H s)(k:∀ b u,s.heap.get? b=some u->h'.get? b=some u)(hp:s.heap.objs.size<=a)(new:ObjOk X.prog X.w (upd H a o) h' a o) :
 Inv X pins σ (upd H a o) { s with heap:=h',toks:=t' }:=I.un (Un.laid k hp (I.hok.fresh hp)) (I.hok.laid k hp new)
theorem Inv.write {x e:Addr}{o:HO}{t':Nat}(I:Inv X pins σ H s)(mu:Mut (H x))(he:e=x\/H e=some (.own x))(k:∀ b u,b≠e->s.heap.get? b=some u->h'.get? b=some u)(heo:∃ u,h'.get? e=some u)
 (new:ObjOk X.prog X.w (upd H x o) h' x o):Inv X pins σ (upd H x o) { s with heap:=h',toks:=t' }:=I.un (Un.write mu he k heo) (I.hok.write mu he k heo new)
theorem Inv.pins_of {pins':List (Addr×Obj)}(I:Inv X pins σ H s)(h:∀ p∈pins',s.heap.get? p.1=some p.2/\H p.1=none/\p.1≠X.env.locals/\p.1 ∉ X.fs/\∀ v,p.2.data≠.cell v):Inv X pins' σ H s :=
 ⟨I.ok,I.os,I.bare,I.base,I.loc,I.cell,I.free,I.freeC,fun p hp=>(mem_append.mp hp).elim (fun z=>I.pin p (Ju _ z)) (h p),I.hok,I.len⟩
theorem ZbE {N:List Str}(hN:N.Nodup){i j:Nat}{x:Str}(a:N[i]?=some x)(b:N[j]?=some x):i=j:=by
 obtain ⟨h1,e1⟩:=Ql.mp a
 obtain ⟨h2,e2⟩:=Ql.mp b
 exact (List.getElem_inj hN).mp (e1.trans e2.symm)
theorem ZaA {M:Rx}{A:QK}{E:Qe->Qg->Prop}{i:Nat}{x:Str}{v:V}{u:Qe}{Q:Unit->Qg->Prop}(I:Inv X pins σ H s)(hN:X.N.Nodup)(hi:X.N[i]?=some x)(hx:Loc X.env.scope x)(r:RelV v u)
 (h:∀ s',Inv X pins (σ.set i (some v)) H s'->(∃ a,Od a s.heap s'.heap/\(a=X.env.locals\/X.env.cells.lookup x=some a))->Q () s') (hf:X.fn x=true\/X.env.scope.names.lookup x=some .local:=by first | exact .inl rfl | exact .inr rfl | assumption):Qr M A (storeName X.env x u) Q E s:=by
 obtain ⟨m,hn,hl⟩:=id I.loc
 have hcls:(X.env.scope.kind == .class || (X.env.scope.kind == .module&&X.env.locals != X.env.globals))=false:=by rw [I.ok.kind];rfl
 have hiσ:i < σ.length:=by rw [I.len];exact (Ql.mp hi).1
 have cne:=I.cne
 have tracked:∀ {a:Addr} {h':Heap},(∃ o,s.heap.get? a=some o/\H a=none)->Od a s.heap h'->HOk X.prog X.w H h':=fun {a h'} ha hs b ob e=>by
  obtain ⟨_,_,hfree⟩:=ha
  refine (I.hok b ob e).stay (fun c w' hc q=>(hs.2 c ?_).trans q) (fun _ q=>q) fun _ _ q=>q
  rintro rfl
  rcases hc with rfl | hc
  ·rw [hfree] at e;cases e
  ·rw [hfree] at hc;cases hc
 rcases hx with hk | hk
 ·refine wpAny_storeName_local hk hn (fun h' hn' hs=>?_) hcls
  obtain ⟨oL,_,_,hoL,_⟩:=id hn
  refine h _ ⟨I.ok,I.os,I.bare,⟨fun b o e n hb hx=>?_,fun b o e n hb hx=>?_,I.base.free,fun b o e hx=>?_,I.base.tups,I.base.frzs,I.base.tbls⟩,⟨_,hn',fun j y v' e1 e2 e3=>?_⟩,fun y c e=>?_,I.free,I.freeC,fun p hp=>?_,tracked ⟨oL,hoL,I.free⟩ hs,by simpa using I.len⟩ ⟨_,hs,.inl rfl⟩
  ·exact (hs.2 b (Qt (QB (Qj e) I.ok.above))).trans (I.base.keep b o e n hb hx)
  ·obtain ⟨sl,e1⟩:=I.base.slot b o e n hb hx
   exact ⟨sl,(hs.2 b (Qt (QB (Qj e) I.ok.above))).trans e1⟩
  ·obtain ⟨o',e1⟩:=I.base.there b o e hx
   exact ⟨o',(hs.2 b (Qt (QB (Qj e) I.ok.above))).trans e1⟩
  ·by_cases hj:j=i
   ·subst hj
    rw [hi] at e1;cases e1
    rw [Oe hiσ] at e2
    cases e2
    exact ⟨u,r,.inl ⟨hk,by simp⟩⟩
   ·rw [Sw (GR hj)] at e2
    obtain ⟨u',r',q⟩:=hl j y v' e1 e2 e3
    refine ⟨u',r',?_⟩
    rcases q with ⟨k,e⟩ | ⟨k,c,e,z⟩
    ·refine .inl ⟨k,?_⟩
     have:y≠x:=fun e=>hj (ZbE hN e1 (e ▸ hi))
     simp [this,e]
    ·exact .inr ⟨k,c,e,z.sameBut hs (cne y c e)⟩
  ·obtain ⟨w',z⟩:=I.cell y c e
   exact ⟨w',z.sameBut hs (cne y c e)⟩
  ·obtain ⟨e,n,ne,nf,d⟩:=I.pin p hp
   exact ⟨(hs.2 p.1 ne).trans e,n,ne,nf,d⟩
 ·have hfn:X.fn x=true:=by
   rcases hf with z | z
   ·exact z
   ·rw [z] at hk;cases hk
  obtain ⟨c,hc⟩:=I.ok.has x (.inl hk)
  obtain ⟨w',z⟩:=I.cell x c hc
  refine wpAny_storeName_cell I.ok.kind hk hc z (fun h' hc' hs=>?_)
  obtain ⟨oc,hoc,hocd⟩:=id z
  refine h { s with heap:=h' } ⟨I.ok,I.os,I.bare,⟨fun b o e n hb hx=>?_,fun b o e n hb hx=>?_,I.base.free,fun b o e hx=>?_,I.base.tups,I.base.frzs,I.base.tbls⟩,⟨m,hn.sameBut hs (GR (cne x c hc)),fun j y v' e1 e2 e3=>?_⟩,fun y c' e=>?_,I.free,I.freeC,fun p hp=>?_,tracked ⟨oc,hoc,I.freeC x c hc⟩ hs,by simpa using I.len⟩ ⟨c,hs,.inr hc⟩
  ·exact (hs.2 b (Qt (QB (Qj e) (I.ok.cab x c hfn hc)))).trans (I.base.keep b o e n hb hx)
  ·obtain ⟨sl,e1⟩:=I.base.slot b o e n hb hx
   exact ⟨sl,(hs.2 b (Qt (QB (Qj e) (I.ok.cab x c hfn hc)))).trans e1⟩
  ·obtain ⟨o',e1⟩:=I.base.there b o e hx
   exact ⟨o',(hs.2 b (Qt (QB (Qj e) (I.ok.cab x c hfn hc)))).trans e1⟩
  ·by_cases hj:j=i
   ·subst hj
    rw [hi] at e1;cases e1
    rw [Oe hiσ] at e2
    cases e2
    exact ⟨u,r,.inr ⟨.inl hk,c,hc,hc'⟩⟩
   ·rw [Sw (GR hj)] at e2
    obtain ⟨u',r',q⟩:=hl j y v' e1 e2 e3
    refine ⟨u',r',?_⟩
    rcases q with q | ⟨k,c',e,z'⟩
    ·exact .inl q
    ·refine .inr ⟨k,c',e,z'.sameBut hs ?_⟩
     rintro rfl
     exact hj (ZbE hN e1 (I.ok.inj _ _ _ e hc ▸ hi))
  ·by_cases hcc:c'=c
   ·subst hcc;exact ⟨_,hc'⟩
   ·obtain ⟨w2,z2⟩:=I.cell y c' e
    exact ⟨w2,z2.sameBut hs hcc⟩
  ·obtain ⟨e,n,ne,nf,d⟩:=I.pin p hp
   refine ⟨(hs.2 p.1 ?_).trans e,n,ne,nf,d⟩
   intro q
   rw [q,hoc] at e
   have q':oc=p.2:=QZ e
   exact d w' (by rw [<- q'];exact hocd)
theorem XA {M:Rx}{A:QK}{E:Qe->Qg->Prop}{i:Nat}{x:Str}{v:V}{u:Qe}{Q:Unit->Qg->Prop}(I:Inv X pins σ H s)(hN:X.N.Nodup)(hi:X.N[i]?=some x)(hx:Loc X.env.scope x)(r:RelV v u)
 (h:∀ s',Inv X pins (σ.set i (some v)) H s'->Q () s') (hf:X.fn x=true\/X.env.scope.names.lookup x=some .local:=by first | exact .inl rfl | exact .inr rfl | assumption):Qr M A (storeName X.env x u) Q E s :=
 ZaA I hN hi hx r (fun s' I' _=>h s' I') hf
theorem Inv.call' {s':Qg}{ch:List Addr}(I:Inv X pins σ H s)(ho:s'.os=s.os)(u:Un (XY X.stack) ch H H' s.heap s'.heap)(hok:HOk X.prog X.w H' s'.heap)(hg:SQ s'.gens)
 (hch:∀ b∈ch,(b∈X.ex\/X.s₀.heap.objs.size<=b)/\b≠X.env.locals/\(∀ x c,X.env.cells.lookup x=some c->c≠b)/\∀ p∈X.pn++pins,p.1≠b):Inv X pins σ H' s':=by
 obtain ⟨h',g',d',t',o'⟩:=s'
 have e:o'=s.os:=ho
 subst e
 exact I.call (g':=g') (t':=t') (d':=d') u hok hg hch
end
abbrev XK:=Qe->Option Addr->Hp->Prop
abbrev St:=List (Option V)
abbrev VK:=V->Hp->Prop
abbrev TE:=St->Hp->VK->Prop
abbrev TT:=St->Hp->(Bool->Hp->Prop)->Prop
abbrev TA:=St->Hp->(List V->Hp->Prop)->Prop
structure Uz where
 nx:St->Hp->Prop
 rt:VK
 bk:St->Hp->Prop:=fun _ _=>False
 ct:St->Hp->Prop:=fun _ _=>False
abbrev TS:=Uz->St->Hp->Prop
def EP (X:Cx)(pins:List (Addr×Obj))(σ:St)(Q:VK)(u:Qe)(s':Qg):Prop:=∃ v H',Inv X pins σ H' s'/\RelV v u/\Q v H'
def TP (X:Cx)(pins:List (Addr×Obj))(σ:St)(Q:Bool->Hp->Prop)(b:Bool)(s':Qg):Prop:=∃ H',Inv X pins σ H' s'/\Q b H'
def AP (X:Cx)(pins:List (Addr×Obj))(σ:St)(Q:List V->Hp->Prop)(us:List Qe)(s':Qg):Prop:=∃ vs H',Inv X pins σ H' s'/\Vals vs us/\Q vs H'
def SP (X:Cx)(pins:List (Addr×Obj))(D:Uz)(f:Flow)(s':Qg):Prop :=
 match f with
 | .next=>∃ σ' H',Inv X pins σ' H' s'/\D.nx σ' H'
 | .brk=>∃ σ' H',Inv X pins σ' H' s'/\D.bk σ' H'
 | .cont=>∃ σ' H',Inv X pins σ' H' s'/\D.ct σ' H'
 | .ret u=>∃ v σ' H',Inv X pins σ' H' s'/\RelV v u/\D.rt v H'
def PE (X:Cx)(e:Expr)(t:TE):Prop :=
 ∀ (pins:List (Addr×Obj)) (s:Qg) (σ:St) (H:Hp) (Q:VK),Inv X pins σ H s->t σ H Q->Qr (QA X.prog X.w) X.A (eval e X.env) (EP X pins σ Q) X.xe s
def PT (X:Cx)(e:Expr)(t:TT):Prop :=
 ∀ (pins:List (Addr×Obj)) (s:Qg) (σ:St) (H:Hp) (Q:Bool->Hp->Prop),Inv X pins σ H s->t σ H Q->Qr (QA X.prog X.w) X.A (isTrue e X.env (eval e X.env)) (TP X pins σ Q) X.xe s
def PW (X:Cx)(e:Expr)(t:TT):Prop :=
 ∀ (whole:Sem Qe) (pins:List (Addr×Obj)) (s:Qg) (σ:St) (H:Hp) (Q:Bool->Hp->Prop),Inv X pins σ H s->t σ H Q->Qr (QA X.prog X.w) X.A (isTrue e X.env whole) (TP X pins σ Q) X.xe s
theorem PW.pt {X:Cx}{e:Expr}{t:TT}(h:PW X e t):PT X e t:=h _
def PA (X:Cx)(es:List Expr)(t:TA):Prop :=
 ∀ (pos:Pos) (pins:List (Addr×Obj)) (s:Qg) (σ:St) (H:Hp) (Q:List V->Hp->Prop),Inv X pins σ H s->t σ H Q->Qr (QA X.prog X.w) X.A (ML (Jp pos (QH es X.env))) (AP X pins σ Q) X.xe s
def PS (X:Cx)(st:Stmt)(t:TS):Prop :=
 ∀ (pins:List (Addr×Obj)) (s:Qg) (σ:St) (H:Hp) (D:Uz),Inv X pins σ H s->t D σ H->Qr (QA X.prog X.w) X.A (exec st X.env) (SP X pins D) X.xe s
def PSs (X:Cx)(st:List Stmt)(t:TS):Prop :=
 ∀ (pins:List (Addr×Obj)) (s:Qg) (σ:St) (H:Hp) (D:Uz),Inv X pins σ H s->t D σ H->Qr (QA X.prog X.w) X.A (execs st X.env) (SP X pins D) X.xe s
theorem Zt {α:Type}{t:Sem α}{Q Q':α->Qg->Prop}{M:Rx}{A:QK}{E:Qe->Qg->Prop}{s:Qg}(h:Qr M A t Q E s)(hQ:∀ a s,Q a s->Q' a s):Qr M A t Q' E s:=QY h hQ fun _ _ x=>x
section
variable {X:Cx}
def XV (i:Nat):TE:=fun σ H Q=>∃ v,σ[i]?=some (some v)/\Q v H
def tC (v:V):TE:=fun _ H Q=>Q v H
theorem ZhA {i:Nat}{x:Str}{pos:Pos}(hN:X.N[i]?=some x)(hv:Vis X.env.scope x)(hd:(x == ("__debug__":Str))=false:=by decide)(hcd:(x == ("__classdict__":Str))=false:=by decide):PE X (.Name x pos) (XV i):=by
 intro pins s σ H Q I h
 obtain ⟨v,e,h⟩:=h
 obtain ⟨m,hn,hl⟩:=I.loc
 obtain ⟨u,r,l⟩:=hl i x v hN e hv
 have fin:EP X pins σ Q u s:=⟨v,H,I,r,h⟩
 rcases l with ⟨hk,hm⟩ | ⟨hk,c,hc,hcell⟩
 ·exact wpAny_Name (OL I.ok.kind hk hn hm fin) hd
 ·rcases hk with hk | hk
  ·exact wpAny_Name (Nf I.ok.kind hk hc hcell fin) hd
  ·exact wpAny_Name (wpAny_loadName_free I.ok.kind hk hc hcell fin hcd) hd
theorem Zc {i j pos}:PE X (.Constant (.int i) j pos) (tC (.int i)):=fun _ _ _ H _ I h=>wpAny_Constant_int ⟨.int i,H,I.tok _,⟨_,rfl⟩,h⟩
theorem Zad {b j pos}:PE X (.Constant (.bool b) j pos) (tC (.bl b)):=fun _ _ _ H _ I h=>Constant_bool ⟨.bl b,H,I,rfl,h⟩
theorem YQ {j pos}:PE X (.Constant .none j pos) (tC .non):=fun _ _ _ H _ I h=>Nn ⟨.non,H,I,rfl,h⟩
theorem Zk {x j pos}:PE X (.Constant (.str x) j pos) (tC (.str x)):=fun _ _ _ H _ I h=>Calls.Constant_str ⟨.str x,H,I.tok _,⟨_,rfl⟩,h⟩
def Gl (X:Cx)(x:Str):Prop:=X.env.kindOf x=some .globalImplicit
theorem Vc {E:Qe->Qg->Prop}{pins:List (Addr×Obj)}{s:Qg}{σ:St}{H:Hp}{x:Str}{u:Qe}{pos:Pos}{Q:Qe->Qg->Prop}(I:Inv X pins σ H s)(hg:Gl X x)(hm:X.mg x=some u)(h:Q u s)
 (hd:(x == ("__debug__":Str))=false:=by decide):Qr (QA X.prog X.w) X.A (eval (.Name x pos) X.env) Q E s :=
 Ri I.ok.kind hg (Calls.loadGlobal_global (by rw [I.ok.glob];exact I.mod.glob.keeps I.bk) hm h) hd
theorem Ug {E:Qe->Qg->Prop}{pins:List (Addr×Obj)}{s:Qg}{σ:St}{H:Hp}{x:Str}{u:Qe}{pos:Pos}{Q:Qe->Qg->Prop}(I:Inv X pins σ H s)(hg:Gl X x)(hm:X.mg x=none)(hv:Pu x=some u)(h:Q u s)
 (hn:x≠"__name__":=by decide) (hd:(x == ("__debug__":Str))=false:=by decide):Qr (QA X.prog X.w) X.A (eval (.Name x pos) X.env) Q E s:=by
 obtain ⟨mb,h1,h2⟩:=I.mod.blt
 exact Ri I.ok.kind hg (Calls.loadGlobal_builtin (by rw [I.ok.glob];exact I.mod.glob.keeps I.bk) hm (by rw [I.ok.blt];exact h1.keeps I.bk) ((h2 x hn).trans hv) h) hd
theorem YS {x:Str}{v:V}{u:Qe}{pos:Pos}(hg:Gl X x)(hm:X.mg x=some u)(r:RelV v u)(hd:(x == ("__debug__":Str))=false:=by decide):PE X (.Name x pos) (tC v) :=
 fun _ _ _ H _ I h=>Vc I hg hm ⟨v,H,I,r,h⟩ hd
theorem YH {x:Str}{v:V}{u:Qe}{pos:Pos}(hg:Gl X x)(hm:X.mg x=none)(hv:Pu x=some u)(r:RelV v u)(hn:x≠"__name__":=by decide)(hd:(x == ("__debug__":Str))=false:=by decide):PE X (.Name x pos) (tC v) :=
 fun _ _ _ H _ I h=>Ug I hg hm hv ⟨v,H,I,r,h⟩ hn hd
variable {a b:Expr}{ta tb:TE}{pos:Pos}
def PC (X:Cx)(op:Mw)(a b:Expr)(t:TE):Prop :=
 ∀ (pins:List (Addr×Obj)) (s:Qg) (σ:St) (H:Hp) (Q:VK),Inv X pins σ H s->t σ H Q ->
  Qr (QA X.prog X.w) X.A (eval a X.env) (fun v s₁=>Qr (QA X.prog X.w) X.A (eval b X.env) (fun u s₂=>Qr (QA X.prog X.w) X.A (GO op v u) (EP X pins σ Q) X.xe s₂) X.xe s₁) X.xe s
theorem Zeq (b:Expr){op:Mw}(h:op≠.In)(h2:op≠.NotIn):JH op b=false:=by
 have e1:(op == CmpOp.In)=false:=by cases op<;>first | rfl | exact absurd rfl h
 have e2:(op == CmpOp.NotIn)=false:=by cases op<;>first | rfl | exact absurd rfl h2
 cases b<;>simp [JH,e1,e2]
def tIsN (ta:TE):TE:=fun σ H Q=>ta σ H fun x H1=>Q (.bl (decide (x=.non))) H1
def ZpI (ta:TE):TE:=fun σ H Q=>ta σ H fun x H1=>Q (.bl (!decide (x=.non))) H1
theorem RelV.none_iff {x:V}{v:Qe}(r:RelV x v):(v == Gb)=decide (x=.non):=by
 cases x with
 | non=>cases r;rfl
 | bl _=>cases r;rfl
 | int _=>obtain ⟨t,rfl⟩:=r;rfl
 | str _=>obtain ⟨t,rfl⟩:=r;rfl
 | byt _=>obtain ⟨t,rfl⟩:=r;rfl
 | flt _=>obtain ⟨t,rfl⟩:=r;rfl
 | ref _=>cases r;rfl
 | ty _=>cases r;rfl
theorem Ui {j pos'}(ha:PE X a ta):PC X .Is a (.Constant .none j pos') (tIsN ta):=by
 intro pins s σ H Q I h
 refine Zt (ha pins s σ H _ I h) fun v s1 ⟨x,H1,I1,r1,q1⟩=>?_
 exact Nn (is_none_gen ⟨.bl _,H1,I1,by rw [r1.none_iff];rfl,q1⟩)
theorem ZcR {j pos'}(ha:PE X a ta):PC X .IsNot a (.Constant .none j pos') (ZpI ta):=by
 intro pins s σ H Q I h
 refine Zt (ha pins s σ H _ I h) fun v s1 ⟨x,H1,I1,r1,q1⟩=>?_
 exact Nn (isnot_none_gen ⟨.bl _,H1,I1,by rw [r1.none_iff];rfl,q1⟩)
def tB (t:TE):TT:=fun σ H Q=>t σ H fun x H1=>∃ c,x=.bl c/\Q c H1
theorem Zog {op:Mw}{t:TE}(h:PC X op a b t)(h1:JH op b=false:=by first | exact Zeq _ (by decide) (by decide) | rfl):PE X (.Compare a [op] [b] pos) t:=fun pins s σ H Q I hw=>wpAny_Compare1 (h pins s σ H Q I hw) h1
theorem Wu {op:Mw}{t:TE}(h:PC X op a b t)(h1:JH op b=false:=by first | exact Zeq _ (by decide) (by decide) | rfl):PT X (.Compare a [op] [b] pos) (tB t):=by
 intro pins s σ H Q I hw
 refine OE (Zt (h pins s σ H _ I hw) fun v s1 h1=>Zt h1 fun u s2 h2=>Zt h2 fun c s3 ⟨x,H1,I1,r1,q1⟩=>?_) h1
 obtain ⟨d,rfl,q⟩:=q1
 cases r1
 exact Gi ⟨H1,I1,q⟩
theorem Yo {e:Expr}{t:TE}(h:PE X e t)(he:∀ whole,isTrue e X.env whole=(do let v <- whole;MM e.pos;NI [v] (truthy v)):=by intro _;rfl):PT X e (tB t):=by
 intro pins s σ H Q I hw
 refine NJ (Zt (h pins s σ H _ I hw) fun v s1 ⟨x,H1,I1,r1,q1⟩=>?_) (he _)
 obtain ⟨d,rfl,q⟩:=q1
 cases r1
 exact Gi ⟨H1,I1,q⟩
variable {tA tB':TT}{rest:List Expr}
def tAnd (t u:TT):TT:=fun σ H Q=>t σ H fun c H1=>if c=true then u σ H1 Q else Q false H1
def tOr (t u:TT):TT:=fun σ H Q=>t σ H fun c H1=>if c=true then Q true H1 else u σ H1 Q
def tNot (t:TT):TT:=fun σ H Q=>t σ H fun c H1=>Q (!c) H1
theorem UC (ha:PT X a tA):PW X (.BoolOp .And [a] pos) tA:=by
 intro wh pins s σ H Q I h
 refine isTrue_and (Zt (ha pins s σ H Q I h) fun c s1 e=>?_)
 cases c with
 | true=>exact isTrue_and_nil e
 | false=>exact e
theorem Wg (ha:PT X a tA):PW X (.BoolOp .Or [a] pos) tA:=by
 intro wh pins s σ H Q I h
 refine isTrue_or (Zt (ha pins s σ H Q I h) fun c s1 e=>?_)
 cases c with
 | false=>exact isTrue_or_nil e
 | true=>exact e
theorem Vg (ha:PT X a tA)(hb:PW X (.BoolOp .And (b::rest) pos) tB'):PW X (.BoolOp .And (a::b::rest) pos) (tAnd tA tB'):=by
 intro wh pins s σ H Q I h
 refine isTrue_and (Zt (ha pins s σ H _ I h) fun c s1 ⟨H1,I1,q1⟩=>?_)
 cases c with
 | true=>exact hb wh pins s1 σ H1 Q I1 q1
 | false=>exact ⟨H1,I1,q1⟩
theorem Xt (ha:PT X a tA)(hb:PW X (.BoolOp .Or (b::rest) pos) tB'):PW X (.BoolOp .Or (a::b::rest) pos) (tOr tA tB'):=by
 intro wh pins s σ H Q I h
 refine isTrue_or (Zt (ha pins s σ H _ I h) fun c s1 ⟨H1,I1,q1⟩=>?_)
 cases c with
 | true=>exact ⟨H1,I1,q1⟩
 | false=>exact hb wh pins s1 σ H1 Q I1 q1
theorem XI (ha:PT X a tA):PT X (.UnaryOp .Not a pos) (tNot tA):=by
 intro pins s σ H Q I h
 exact isTrue_not (ha pins s σ H (fun c H1=>Q (!c) H1) I h)
def Zpy (ta tb:TE):TE:=fun σ H Q=>ta σ H fun x H1=>∃ c,x=.bl c/\if c=true then tb σ H1 Q else Q (.bl false) H1
def tOrV (ta tb:TE):TE:=fun σ H Q=>ta σ H fun x H1=>∃ c,x=.bl c/\if c=true then Q (.bl true) H1 else tb σ H1 Q
def ZpL (ta:TE):TE:=fun σ H Q=>ta σ H fun x H1=>∃ c,x=.bl c/\Q (.bl (!c)) H1
theorem WH {op}{t:TE}(h:PE X a t):PE X (.BoolOp op [a] pos) t:=fun pins s σ H Q I hw=>BoolOp_one (h pins s σ H Q I hw)
theorem XZ (ha:PE X a ta)(hb:PE X (.BoolOp .And (b::rest) pos) tb):PE X (.BoolOp .And (a::b::rest) pos) (Zpy ta tb):=by
 intro pins s σ H Q I h
 refine BoolOp_and (Zt (ha pins s σ H _ I h) fun v s1 ⟨x,H1,I1,r1,q1⟩=>?_)
 obtain ⟨c,rfl,q1⟩:=q1
 cases r1
 refine Gi ?_
 cases c with
 | true=>exact hb pins s1 σ H1 Q I1 q1
 | false=>exact ⟨.bl false,H1,I1,rfl,q1⟩
theorem Zpd (ha:PE X a ta)(hb:PE X (.BoolOp .Or (b::rest) pos) tb):PE X (.BoolOp .Or (a::b::rest) pos) (tOrV ta tb):=by
 intro pins s σ H Q I h
 refine BoolOp_or (Zt (ha pins s σ H _ I h) fun v s1 ⟨x,H1,I1,r1,q1⟩=>?_)
 obtain ⟨c,rfl,q1⟩:=q1
 cases r1
 refine Gi ?_
 cases c with
 | false=>exact hb pins s1 σ H1 Q I1 q1
 | true=>exact ⟨.bl true,H1,I1,rfl,q1⟩
theorem ZbQ (ha:PE X a ta):PE X (.UnaryOp .Not a pos) (ZpL ta):=by
 intro pins s σ H Q I h
 refine UnaryOp_ (Zt (ha pins s σ H _ I h) fun v s1 ⟨x,H1,I1,r1,q1⟩=>?_)
 obtain ⟨c,rfl,q1⟩:=q1
 cases r1
 exact not_of (Gi ⟨.bl (!c),H1,I1,rfl,q1⟩)
def tIf (t:TT)(ta tb:TE):TE:=fun σ H Q=>t σ H fun c H1=>if c=true then ta σ H1 Q else tb σ H1 Q
theorem Yv {c:Expr}(hc:PT X c tA)(ha:PE X a ta)(hb:PE X b tb):PE X (.IfExp c a b pos) (tIf tA ta tb):=by
 intro pins s σ H Q I h
 refine wpAny_IfExp (Zt (hc pins s σ H _ I h) fun d s1 ⟨H1,I1,q1⟩=>?_)
 cases d with
 | true=>exact ha pins s1 σ H1 Q I1 q1
 | false=>exact hb pins s1 σ H1 Q I1 q1
end
def SqL (K:Qb)(H:Hp)(a:Addr)(xs:List V):Prop :=
 Rd H a (.lst xs) \/
  ∃ (o:Obj) (its:Array Qe) (n:Nat),K.lookup a=some o/\o.cls=.type "list"/\o.dict=none/\o.data=.seq its n/\its.size<=Qi/\Vals xs its.toList
def SqT (K:Qb)(H:Hp)(a:Addr)(xs:List V):Prop :=
 Rd H a (.tup xs) \/
  ∃ (o:Obj) (its:Array Qe) (n:Nat),K.lookup a=some o/\o.cls=.type "tuple"/\o.data=.seq its n/\its.size<=Qi/\Vals xs its.toList
def absV:Qe->Option V
 | .none=>some .non
 | .bool b=>some (.bl b)
 | .int i _=>some (.int i)
 | .str x _=>some (.str x)
 | .bytes b _=>some (.byt b)
 | .float b _=>some (.flt b)
 | .ref a=>some (.ref a)
 | .type n=>some (.ty n)
 | _=>none
theorem RelV.abs {x:V}{u:Qe}(r:RelV x u):absV u=some x:=by
 cases x with
 | non=>cases r;rfl
 | bl _=>cases r;rfl
 | int _=>obtain ⟨t,rfl⟩:=r;rfl
 | str _=>obtain ⟨t,rfl⟩:=r;rfl
 | byt _=>obtain ⟨t,rfl⟩:=r;rfl
 | flt _=>obtain ⟨t,rfl⟩:=r;rfl
 | ref _=>cases r;rfl
 | ty _=>cases r;rfl
theorem RelV.inj {x y:V}{u:Qe}(r:RelV x u)(q:RelV y u):x=y:=QZ (r.abs.symm.trans q.abs)
theorem Vals.inj:∀{xs ys:List V}{us:List Qe},Vals xs us->Vals ys us->xs=ys
 | _,_,_,.nil,.nil=>rfl
 | _,_,_,.cons r t,.cons r' t'=>by rw [r.inj r',Vals.inj t t']
section
variable {X:Cx}{pins:List (Addr×Obj)}{σ:St}{H:Hp}{s:Qg}{a:Addr}{xs ys:List V}
theorem SqL.of {K:Qb}(h:H a=some (.lst xs)):SqL K H a xs:=.inl (.inl h)
theorem SqT.of {K:Qb}(h:H a=some (.tup xs)):SqT K H a xs:=.inl (.inl h)
theorem Inv.list (I:Inv X pins σ H s)(h:SqL X.K H a xs):∃ its:List Qe,Vals xs its/\PlainL s.heap a its.toArray/\xs.length<=sizeLine:=by
 rcases h with h | ⟨o,its,n,hk,hc,hd,hs,hz,r⟩
 ·obtain ⟨z,its,n,r,e⟩:=h.ok I.hok
  exact ⟨its,r,⟨_,n,e,rfl,rfl,rfl⟩,z⟩
 ·refine ⟨its.toList,r,⟨o,n,I.kIn a o hk,hc,hd,by simpa using hs⟩,?_⟩
  have e:=r.length
  simp only [QV] at e
  omega
theorem Inv.tuple (I:Inv X pins σ H s)(h:SqT X.K H a xs):∃ its:List Qe,Vals xs its/\IsTup s.heap a its.toArray/\xs.length<=sizeLine:=by
 rcases h with h | ⟨o,its,n,hk,hc,hs,hz,r⟩
 ·obtain ⟨z,its,r,p⟩:=h.ok I.hok
  exact ⟨its,r,p,z⟩
 ·refine ⟨its.toList,r,⟨o,I.kIn a o hk,hc,n,by simpa using hs⟩,?_⟩
  have e:=r.length
  simp only [QV] at e
  omega
theorem Inv.list_inj (I:Inv X pins σ H s)(h:SqL X.K H a xs)(h':SqL X.K H a ys):xs=ys:=by
 obtain ⟨its,r,⟨o,n,e,_,_,d⟩,_⟩:=I.list h
 obtain ⟨its',r',⟨o',n',e',_,_,d'⟩,_⟩:=I.list h'
 rw [e] at e';cases e'
 rw [d] at d'
 injection d' with d1 _
 have:its=its':=by simpa using congrArg NK d1
 subst this
 exact r.inj r'
theorem Inv.tuple_inj (I:Inv X pins σ H s)(h:SqT X.K H a xs)(h':SqT X.K H a ys):xs=ys:=by
 obtain ⟨its,r,⟨o,e,_,n,d⟩,_⟩:=I.tuple h
 obtain ⟨its',r',⟨o',e',_,n',d'⟩,_⟩:=I.tuple h'
 rw [e] at e';cases e'
 rw [d] at d'
 injection d' with d1 _
 have:its=its':=by simpa using congrArg NK d1
 subst this
 exact r.inj r'
end
abbrev Cx.wish (X:Cx)(E:Qe->Qg->Prop):Cx:={ X with xe:=E }
abbrev Cx.nox (X:Cx):Cx:=X.wish fun _ _=>False
theorem Cx.Ok.wish {X:Cx}(ok:X.Ok)(E:Qe->Qg->Prop):(X.wish E).Ok :=
 ⟨ok.mod,ok.kind,ok.glob,ok.blt,ok.above,ok.inj,ok.has,ok.cab,ok.hd,ok.frames,ok.stk,ok.exf,ok.bs,ok.bsz,ok.noex,ok.exfs,ok.funs,ok.frf⟩
theorem Cx.Ok.unwish {X:Cx}{E:Qe->Qg->Prop}(ok:(X.wish E).Ok):X.Ok :=
 ⟨ok.mod,ok.kind,ok.glob,ok.blt,ok.above,ok.inj,ok.has,ok.cab,ok.hd,ok.frames,ok.stk,ok.exf,ok.bs,ok.bsz,ok.noex,ok.exfs,ok.funs,ok.frf⟩
section
variable {X:Cx}{pins:List (Addr×Obj)}{σ:St}{H:Hp}{s:Qg}{E:Qe->Qg->Prop}
theorem Inv.wish (I:Inv X pins σ H s)(E:Qe->Qg->Prop):Inv (X.wish E) pins σ H s:=⟨I.ok.wish E,I.os,I.bare,I.base,I.loc,I.cell,I.free,I.freeC,I.pin,I.hok,I.len⟩
theorem Inv.unwish (I:Inv (X.wish E) pins σ H s):Inv X pins σ H s:=⟨I.ok.unwish,I.os,I.bare,I.base,I.loc,I.cell,I.free,I.freeC,I.pin,I.hok,I.len⟩
theorem SP.unwish {D:Uz}{f:Flow}{s':Qg}(h:SP (X.wish E) pins D f s'):SP X pins D f s':=by
 cases f with
 | next=>obtain ⟨σ',H',I,q⟩:=h;exact ⟨σ',H',I.unwish,q⟩
 | brk=>obtain ⟨σ',H',I,q⟩:=h;exact ⟨σ',H',I.unwish,q⟩
 | cont=>obtain ⟨σ',H',I,q⟩:=h;exact ⟨σ',H',I.unwish,q⟩
 | ret u=>obtain ⟨v,σ',H',I,r,q⟩:=h;exact ⟨v,σ',H',I.unwish,r,q⟩
theorem PSs.nox {st:List Stmt}{t:TS}(h:PSs X.nox st t):PSs X st t:=fun pins s σ H D I hw =>
 QY (h pins s σ H D (I.wish _) hw) (fun _ _ q=>q.unwish) fun _ _ z=>Gh z
end
section
variable {X:Cx}{st:Stmt}{rest:List Stmt}{t u:TS}{e:Expr}{te:TE}{pos:Pos}
def Zhr:TS:=fun D σ H=>D.nx σ H
def ZgZ (t u:TS):TS:=fun D σ H=>t { D with nx:=u D } σ H
theorem ZI:PSs X [] Zhr:=fun _ _ σ H _ I h=>SH ⟨σ,H,I,h⟩
theorem Zf (h1:PS X st t)(h2:PSs X rest u):PSs X (st::rest) (ZgZ t u):=by
 intro pins s σ H D I h
 refine Pw (Zt (h1 pins s σ H { D with nx:=u D } I h) fun f s1 q=>?_)
 cases f with
 | next =>
  obtain ⟨σ',H',I',q⟩:=q
  exact h2 pins s1 σ' H' D I' q
 | ret v=>exact q
 | brk=>exact q
 | cont=>exact q
theorem Zh (h1:PS X st t):PSs X [st] t:=by
 intro pins s σ H D I h
 refine Pw (Zt (h1 pins s σ H D I h) fun f s1 q=>?_)
 cases f with
 | next=>exact SH q
 | ret v=>exact q
 | brk=>exact q
 | cont=>exact q
theorem Inv.quiet {pins:List (Addr×Obj)}{σ:St}{H:Hp}{s:Qg}(I:Inv X pins σ H s):interactive X.env=false:=by simp [interactive,I.ok.kind]
def ZpG (te:TE):TS:=fun D σ H=>te σ H fun _ H1=>D.nx σ H1
theorem YW (he:PE X e te)(hs:Rf e none pos.line X.env=pure false:=by rfl):PS X (.Expr e pos) (ZpG te):=by
 intro pins s σ H D I h
 exact wpAny_Expr_any (Zt (he pins s σ H _ I h) fun v s1 ⟨x,H1,I1,r1,q1⟩=>⟨σ,H1,I1,q1⟩) I.quiet hs
def ZkT (te:TE):TS:=fun D σ H=>te σ H D.rt
theorem Zo (he:PE X e te):PS X (.Return (some e) pos) (ZkT te):=by
 intro pins s σ H D I h
 exact wpAny_Return_some (Zt (he pins s σ H _ I h) fun v s1 ⟨x,H1,I1,r1,q1⟩=>⟨x,σ,H1,I1,r1,q1⟩)
def Zlo (c:TT)(t u:TS):TS:=fun D σ H=>c σ H fun b H1=>if b=true then t D σ H1 else u D σ H1
theorem ZT {c:Expr}{a b:List Stmt}{tc:TT}(hc:PT X c tc)(ha:PSs X a t)(hb:PSs X b u):PS X (.If c a b pos) (Zlo tc t u):=by
 intro pins s σ H D I h
 refine wpAny_If (Zt (hc pins s σ H _ I h) fun d s1 ⟨H1,I1,q1⟩=>?_)
 cases d with
 | true=>exact ha pins s1 σ H1 D I1 q1
 | false=>exact hb pins s1 σ H1 D I1 q1
end
abbrev TG:=V->St->Hp->(St->Hp->Prop)->Prop
abbrev TGs:=List V->St->Hp->(St->Hp->Prop)->Prop
def PG (X:Cx)(target:Expr)(t:TG):Prop :=
 ∀ (pins:List (Addr×Obj)) (s:Qg) (σ:St) (H:Hp) (v:V) (u:Qe) (Q:St->Hp->Prop),Inv X pins σ H s->RelV v u->t v σ H Q ->
  Qr (QA X.prog X.w) X.A (Pk target X.env u) (fun _ s'=>∃ σ' H',Inv X pins σ' H' s'/\Q σ' H') X.xe s
def PGs (X:Cx)(ts:List Expr)(t:TGs):Prop :=
 ∀ (pins:List (Addr×Obj)) (s:Qg) (σ:St) (H:Hp) (vs:List V) (us:List Qe) (Q:St->Hp->Prop),Inv X pins σ H s->Vals vs us->t vs σ H Q ->
  Qr (QA X.prog X.w) X.A (PU ((Sh ts X.env).map (·.2)) us) (fun _ s'=>∃ σ' H',Inv X pins σ' H' s'/\Q σ' H') X.xe s
abbrev ZkU:=V->V->V->Hp->(Hp->Prop)->Prop
def PSet (X:Cx)(t:ZkU):Prop :=
 ∀ (pins:List (Addr×Obj)) (s:Qg) (σ:St) (H:Hp) (o i v:V) (ov iv u:Qe) (Q:Hp->Prop),Inv X pins σ H s->RelV o ov->RelV i iv->RelV v u->t o i v H Q ->
  Qr (QA X.prog X.w) X.A (setItem ov iv u) (fun _ s'=>∃ H',Inv X pins σ H' s'/\Q H') X.xe s
abbrev TIp:=V->V->Hp->VK->Prop
def PIp (X:Cx)(op:Operator)(t:TIp):Prop :=
 ∀ (pins:List (Addr×Obj)) (s:Qg) (σ:St) (H:Hp) (x y:V) (v u:Qe) (Q:VK),Inv X pins σ H s->RelV x v->RelV y u->t x y H Q ->
  Qr (QA X.prog X.w) X.A (inplaceOp op v u) (EP X pins σ Q) X.xe s
section
variable {X:Cx}{pos:Pos}
def Zah (i:Nat):TG:=fun v σ H Q=>Q (σ.set i (some v)) H
theorem ZM {i:Nat}{x:Str}(hN:X.N.Nodup)(hi:X.N[i]?=some x)(hx:Loc X.env.scope x)(hf:X.fn x=true\/X.env.scope.names.lookup x=some .local:=by first | exact .inl rfl | exact .inr rfl | assumption):PG X (.Name x pos) (Zah i):=by
 intro pins s σ H v u Q I r h
 exact Ry (XA I hN hi hx r (fun s' I'=>⟨_,H,I',h⟩) hf)
def gNil:TGs:=fun vs σ H Q=>vs=[]/\Q σ H
def ZgK (t:TG)(u:TGs):TGs:=fun vs σ H Q=>∃ v r,vs=v::r/\t v σ H fun σ' H'=>u r σ' H' Q
theorem Xw:PGs X [] gNil:=by
 intro pins s σ H vs us Q I r h
 obtain ⟨e,h⟩:=h
 subst e
 cases r
 exact Tr ⟨σ,H,I,h⟩
theorem Ye {e:Expr}{es:List Expr}{t:TG}{u:TGs}(h1:PG X e t)(h2:PGs X es u)
 (hs:(Sh (e::es) X.env).map (·.2)=Pk e X.env::(Sh es X.env).map (·.2):=by rfl):PGs X (e::es) (ZgK t u):=by
 intro pins s σ H vs us Q I r h
 obtain ⟨v,vr,e1,h⟩:=h
 subst e1
 cases r with
 | cons r rr =>
  rw [hs]
  refine GM (Zt (h1 pins s σ H _ _ _ I r h) fun _ s1 ⟨σ1,H1,I1,q1⟩=>?_)
  exact h2 pins s1 σ1 H1 _ _ Q I1 rr q1
def gTup (K:Qb)(n:Nat)(t:TGs):TG:=fun v σ H Q=>∃ a xs,v=.ref a/\SqT K H a xs/\xs.length=n/\t xs σ H Q
theorem Wb {es:List Expr}{k:Nat}{t:TGs}{n:Nat}(hc:X.calm=true)(h:PGs X es t)
 (hn:(Sh es X.env).length=n:=by rfl) (hst:(Sh es X.env).findIdx? (·.1)=none:=by rfl):PG X (.Tuple es k pos) (gTup X.K n t):=by
 intro pins s σ H v u Q I r hw
 obtain ⟨a,xs,e1,hq,hl,hw⟩:=hw
 subst e1
 cases r
 obtain ⟨its,rv,ht,hz⟩:=I.tuple hq
 refine assign_Tuple_tuple (I.ok.hd hc) ht (by simp [hn,<- hl,rv.length]) hst fun h' hx=>?_
 have I1:Inv X pins σ H { s with heap:=h' }:=I.kept (t':=s.toks) fun b o e=>hx b o (Qt (Qj e)) e
 exact h pins _ σ H xs _ Q I1 (by simpa using rv) hw
def gSub (to ti:TE)(t:ZkU):TG:=fun v σ H Q=>to σ H fun o H1=>ti σ H1 fun i H2=>t o i v H2 fun H3=>Q σ H3
theorem ZiJ {o i:Expr}{to ti:TE}{t:ZkU}(ho:PE X o to)(hi:PE X i ti)(hs:PSet X t)
 (ha:∀ v,Pk (.Subscript o i pos) X.env v=(do
  let ov <- NI [v] (eval o X.env)
  let iv <- NI [v,ov] (eval i X.env)
  MM pos
  NI [v,ov,iv] (setItem ov iv v)
  release [v,ov,iv] []):=by intro _;rfl):PG X (.Subscript o i pos) (gSub to ti t):=by
 intro pins s σ H v u Q I r h
 rw [ha]
 refine Qd (GI (Zt (ho pins s σ H _ I h) fun ov s1 ⟨x,H1,I1,r1,q1⟩=>?_))
 refine Qd (GI (Zt (hi pins s1 σ H1 _ I1 q1) fun iv s2 ⟨y,H2,I2,r2,q2⟩=>?_))
 refine Qd (GC (Qd (GI (Zt (hs pins s2 σ H2 x y v ov iv u _ I2 r1 r2 r q2) fun _ s3 ⟨H3,I3,q3⟩=>?_))))
 exact wpAny_release ⟨σ,H3,I3,q3⟩
def ZdU (te:TE)(g:TG):TS:=fun D σ H=>te σ H fun x H1=>g x σ H1 D.nx
theorem Uk {tg e:Expr}{te:TE}{g:TG}(he:PE X e te)(hg:PG X tg g)(hs:No [tg] e pos.line X.env=pure false:=by rfl)(hw:Np [tg] e X.env=pure none:=by rfl)
 (h1:(Sh [tg] X.env).map (·.2)=[Pk tg X.env]:=by rfl):PS X (.Assign [tg] e pos) (ZdU te g):=by
 intro pins s σ H D I h
 refine wpAny_Assign_stores (Zt (he pins s σ H _ I h) fun v s1 ⟨x,H1,I1,r1,q1⟩=>?_) hs hw
 rw [h1]
 exact Zt (hg pins s1 σ H1 x v _ I1 r1 q1) fun _ s2 q=>q
theorem Zr {i:Nat}{x:Str}{e:Expr}{te:TE}{pos':Pos}(hN:X.N.Nodup)(hi:X.N[i]?=some x)(hx:Loc X.env.scope x)(he:PE X e te)(hs:Rf e (some (.Name x pos')) pos.line X.env=pure false:=by rfl)(hf:X.fn x=true\/X.env.scope.names.lookup x=some .local:=by first | exact .inl rfl | exact .inr rfl | assumption) :
 PS X (.Assign [.Name x pos'] e pos) (ZdU te (Zah i)):=by
 intro pins s σ H D I h
 refine NL (Zt (he pins s σ H _ I h) fun v s1 ⟨y,H1,I1,r1,q1⟩=>?_) hs
 exact XA I1 hN hi hx r1 (fun s2 I2=>⟨_,H1,I2,q1⟩) hf
def tPar (i j:Nat)(ta:TA):TS:=fun D σ H=>ta σ H fun vs H1=>∃ v w,vs=[v,w]/\D.nx ((σ.set i (some v)).set j (some w)) H1
theorem Wt {i j:Nat}{x y:Str}{a b:Expr}{ta:TA}{px py pt:Pos}{kt k2 pt2}(hc:X.calm=true)(hN:X.N.Nodup)(hi:X.N[i]?=some x)(hj:X.N[j]?=some y)(hij:i≠j)
 (hx:X.env.scope.names.lookup x=some .local) (hy:X.env.scope.names.lookup y=some .local) (ha:PA X [a,b] ta)
 (hw:Np [.Tuple [.Name x px,.Name y py] kt pt] (.Tuple [a,b] k2 pt2) X.env=pure (some [x,y]))
 (hs:No [.Tuple [.Name x px,.Name y py] kt pt] (.Tuple [a,b] k2 pt2) pos.line X.env=pure false:=by rfl) :
 PS X (.Assign [.Tuple [.Name x px,.Name y py] kt pt] (.Tuple [a,b] k2 pt2) pos) (tPar i j ta):=by
 intro pins s σ H D I h
 rw [MA]
 refine Qd (GC ?_)
 rw [hs]
 refine Qd (Qk ?_)
 rw [if_neg (by decide)]
 refine Qd (Tuple_ (Zt (ha _ pins s σ H _ I h) fun us s1 ⟨vs,H1,I1,r1,q1⟩=>?_))
 obtain ⟨v,w,e1,q1⟩:=q1
 subst e1
 obtain ⟨u1,u2,rfl,rv,rw'⟩:∃ u1 u2,us=[u1,u2]/\RelV v u1/\RelV w u2:=by
  cases r1 with
  | cons p q =>
   cases q with
   | cons p' q' =>
    cases q'
    exact ⟨_,_,rfl,p,p'⟩
 refine Gj ?_ (by show 2<=Qi;decide)
 have I2:Inv X pins σ H1 { s1 with heap:=s1.heap.push { cls:=.type "tuple",data:=.seq [u1,u2].toArray } }:=I1.kept (t':=s1.toks) fun b o e=>Qf _ e
 rw [hw]
 refine Qd (Qk ?_)
 show Qr (QA X.prog X.w) X.A (do rule "assign.swapped-stores";let items <- OM (.ref s1.heap.objs.size) 2 none;PU [fun v=>Pm X.env y v,fun v=>Pm X.env x v] items.reverse;pure Me) _ _ _
 refine Qd (Te (Qd (NM (items:=#[u1,u2]) (I.ok.hd hc) (Px s1.heap _) fun h' hx'=>?_)))
 have I3:=I2.kept (h':=h') (t':=s1.toks) fun b o e=>hx' b o (Qt (Qj e)) e
 show Qr _ _ (PU [fun v=>Pm X.env y v,fun v=>Pm X.env x v] [u2,u1] >>= fun _=>pure Me) _ _ _
 refine Qd (GM (Tt (XA I3 hN hj (.inl hy) rw' (fun s2 I4=>?_) (.inr hy))))
 refine GM (Tt (XA I4 hN hi (.inl hx) rv (fun s3 I5=>Tr (Qk ?_)) (.inr hx)))
 rw [RG _ _ (GR hij)] at I5
 exact ⟨_,H1,I5,q1⟩
def tAug (i:Nat)(te:TE)(ti:TIp):TS:=fun D σ H=>∃ x,σ[i]?=some (some x)/\te σ H fun y H1=>ti x y H1 fun z H2=>D.nx (σ.set i (some z)) H2
theorem ZnS {i:Nat}{x:Str}{e:Expr}{te:TE}{op:Operator}{ti:TIp}{pos':Pos}(hN:X.N.Nodup)(hi:X.N[i]?=some x)(hx:Loc X.env.scope x)(he:PE X e te)(ho:PIp X op ti)(hf:X.fn x=true\/X.env.scope.names.lookup x=some .local:=by first | exact .inl rfl | exact .inr rfl | assumption) :
 PS X (.AugAssign (.Name x pos') op e pos) (tAug i te ti):=by
 intro pins s σ H D I h
 obtain ⟨v,e1,h⟩:=h
 obtain ⟨m,hn,hl⟩:=I.loc
 have vis:Vis X.env.scope x:=by rcases hx with k | k;exact .inl k;exact .inr (.inl k)
 obtain ⟨u,r,l⟩:=hl i x v hi e1 vis
 refine wpAny_AugAssign_Name ?_
 have go:Qr (QA X.prog X.w) X.A (eval e X.env) (fun w s₂=>Qr (QA X.prog X.w) X.A (inplaceOp op u w) (fun r s₃=>Qr (QA X.prog X.w) X.A (storeName X.env x r) (fun _=>SP X pins D .next) X.xe s₃) X.xe s₂) X.xe s:=by
  refine Zt (he pins s σ H _ I h) fun w s1 ⟨y,H1,I1,r1,q1⟩=>?_
  refine Zt (ho pins s1 σ H1 v y u w _ I1 r r1 q1) fun z s2 ⟨zv,H2,I2,r2,q2⟩=>?_
  exact XA I2 hN hi hx r2 (fun s3 I3=>⟨_,H2,I3,q2⟩) hf
 rcases l with ⟨hk,hm⟩ | ⟨hk,c,hc,hcell⟩
 ·exact OL I.ok.kind hk hn hm go
 ·rcases hk with hk | hk
  ·exact Nf I.ok.kind hk hc hcell go
  ·rcases hx with k | k
   ·have:X.env.scope.names.lookup x=some .free:=hk
    rw [k] at this;cases this
   ·have:X.env.scope.names.lookup x=some .free:=hk
    rw [k] at this;cases this
end
section
variable {X:Cx}{pos:Pos}
def Zom (c:TT)(tb:TS):TS:=fun D σ H=>∃ W:Nat->St->Hp->Prop,(∃ m,W m σ H)/\∀ m σ H,W m σ H ->
 c σ H fun b H1=>if b=true then ∃ N:St->Hp->Prop,(∀ σ' H',N σ' H'->∃ m',m' < m/\W m' σ' H')/\tb { D with nx:=N,ct:=N,bk:=D.nx } σ H1 else D.nx σ H1
theorem VQ {c:Expr}{body:List Stmt}{tc:TT}{tb:TS}(hp:PassesOwn (QA X.prog X.w) X.A X.env X.xe)(hc:PT X c tc)(hb:PSs X body tb):PS X (.While c body [] pos) (Zom tc tb):=by
 intro pins s σ H D I h
 obtain ⟨W,⟨m0,w0⟩,turn⟩:=h
 refine wpAny_While (codeAny_whileLoop (fun n s'=>∃ σ' H',Inv X pins σ' H' s'/\W n σ' H') ?_ m0 ⟨σ,H,I,w0⟩)
 rintro n s1 ⟨σ1,H1,I1,w1⟩
 refine Jr hp (Zt (hc pins s1 σ1 H1 _ I1 (turn n σ1 H1 w1)) fun b s2 ⟨H2,I2,q2⟩=>?_)
 cases b with
 | true =>
  obtain ⟨N,hN,q2⟩:=q2
  rw [if_pos rfl]
  refine Jr hp (Zt (hb pins s2 σ1 H2 _ I2 q2) fun f s3 q3=>?_)
  cases f with
  | next =>
   obtain ⟨σ3,H3,I3,n3⟩:=q3
   obtain ⟨m',hm,w3⟩:=hN σ3 H3 n3
   exact ⟨m',hm,σ3,H3,I3,w3⟩
  | cont =>
   obtain ⟨σ3,H3,I3,n3⟩:=q3
   obtain ⟨m',hm,w3⟩:=hN σ3 H3 n3
   exact ⟨m',hm,σ3,H3,I3,w3⟩
  | brk=>exact q3
  | ret v=>exact q3
 | false =>
  rw [if_neg Qv]
  exact SH ⟨σ1,H2,I2,q2⟩
end
structure It where
 go:Nat->Hp->Prop
 yld:Nat->Hp->V->Hp->Prop
 stop:Nat->Hp->Prop
def YM (X:Cx)(pins:List (Addr×Obj))(H:Hp)(b:Addr):Prop :=
 H b=none/\b≠X.env.locals/\b ∉ X.fs/\(b∈X.ex\/X.s₀.heap.objs.size<=b)/\(∀ x c,X.env.cells.lookup x=some c->c≠b)/\∀ p∈X.pn++pins,p.1≠b
theorem Inv.fpOk {X:Cx}{pins:List (Addr×Obj)}{σ:St}{H H':Hp}{s:Qg}{b:Addr}(I:Inv X pins σ H s)(hb:s.heap.objs.size<=b)(hn:H' b=none):YM X pins H' b:=by
 refine ⟨hn,GY (QB I.lt hb),I.nofs hb,.inr (Qw I.sz hb),fun x c e z=>?_,fun p hp z=>?_⟩
 ·obtain ⟨v,q⟩:=I.cell x c e
  exact absurd (QB q.lt (by rw [z];exact hb)) (JG _)
 ·exact absurd (QB (Qj (I.pin p hp).1) (by rw [z];exact hb)) (JG _)
structure Ub (P:Qm)(w:QC)(K:Qb)(tg:Expr)(J:It)(fp:List Addr)(it:Addr)(tn:Nat->Heap->Prop):Prop where
 mem:it∈fp
 obj:∀ i h,tn i h->∀ b∈fp,∃ o,h.get? b=some o/\∀ v,o.data≠.cell v
 keep:∀ i h h',tn i h->(∀ b∈fp,∀ o,h.get? b=some o->h'.get? b=some o)->tn i h'
 item:∀ (X:Cx),X.prog=P->X.w=w->X.K=K->X.calm=true->∀ (i:Nat) (pins:List (Addr×Obj)) (s:Qg) (σ:St) (H:Hp) (E:Qe->Qg->Prop),Inv X pins σ H s->(∀ b∈fp,YM X pins H b)->tn i s.heap->J.go i H ->
  Qr (QA P w) X.A (Sj (.ref it)) (fun r s1=>∃ u,r=some u /\
   Qr (QA P w) X.A (Ta tg (.ref it) u) (fun _ s2=>∃ x H',Inv X pins σ H' s2/\RelV x u/\J.yld i H x H'/\tn (i+1) s2.heap/\∀ b∈fp,H' b=none) E s1) E s
 done:∀ (X:Cx),X.prog=P->X.w=w->X.K=K->X.calm=true->∀ (i:Nat) (pins:List (Addr×Obj)) (s:Qg) (σ:St) (H:Hp) (E:Qe->Qg->Prop),Inv X pins σ H s->(∀ b∈fp,YM X pins H b)->tn i s.heap->J.stop i H ->
  Qr (QA P w) X.A (Sj (.ref it)) (fun r s1=>r=none/\Inv X pins σ H s1) E s
 self:∀ (A:QK) (i:Nat) (s:Qg) (Q:Qe->Qg->Prop) (E:Qe->Qg->Prop),tn i s.heap->Q (.ref it) s->Qr (QA P w) A (pyIter (.ref it)) Q E s
abbrev TI:=St->Hp->(It->Hp->Prop)->Prop
def PIE (X:Cx)(pins:List (Addr×Obj))(σ:St)(tg:Expr)(R:It->Hp->Prop)(itv:Qe)(s2:Qg):Prop :=
 ∃ (it:Addr) (fp:List Addr) (tn:Nat->Heap->Prop) (J:It) (H':Hp),itv=.ref it/\Inv X pins σ H' s2/\Ub X.prog X.w X.K tg J fp it tn/\tn 0 s2.heap/\(∀ b∈fp,YM X pins H' b)/\R J H'
def PI (X:Cx)(tg iter:Expr)(wi:TI):Prop :=
 ∀ (pins:List (Addr×Obj)) (s:Qg) (σ:St) (H:Hp) (R:It->Hp->Prop),Inv X pins σ H s->wi σ H R ->
  Qr (QA X.prog X.w) X.A (eval iter X.env) (fun v s1=>Qr (QA X.prog X.w) X.A (pyIter v) (PIE X pins σ tg R) X.xe s1) X.xe s
theorem ZbR {M:Rx}{A:QK}{E:Qe->Qg->Prop}{s:Qg}{tg:Expr}{it:Addr}{u:Qe}{o:Obj}{n:String}{vs:Array Qe}{Q:Unit->Qg->Prop}(ho:s.heap.get? it=some o)(hc:o.cls=.type n)(hd:o.data=.fields vs)
   (hn:["enumerate","zip","dict_itemiterator","dict_reverseitemiterator","odict_iterator","itertools.zip_longest","itertools.pairwise"].contains n=false) (hQ:Q () s):Qr M A (Ta tg (.ref it) u) Q E s:=by
 unfold Ta
 cases tg <;> first
   | exact Qk hQ
   | (cases u<;>first
       | exact Qk hQ
       | (refine Qd (wpAny_load ho ?_)
          rw [hc,hd]
          show Qr M A (if (["enumerate","zip","dict_itemiterator","dict_reverseitemiterator","odict_iterator","itertools.zip_longest","itertools.pairwise"].contains n&&vs[0]? == some (JN _))=true then _ else _) Q E s
          rw [if_neg (by intro h;rw [hn,Bool.false_and] at h;cases h)]
          exact Qk hQ))
def Itl (K:Qb)(a:Addr):It :=
 ⟨fun i H=>∃ xs x,SqL K H a xs/\xs[i]?=some x,fun i H x H'=>H'=H/\∀ xs,SqL K H a xs->xs[i]?=some x,fun i H=>∃ xs,SqL K H a xs/\xs.length<=i⟩
def Itt (K:Qb)(a:Addr):It :=
 ⟨fun i H=>∃ xs x,SqT K H a xs/\xs[i]?=some x,fun i H x H'=>H'=H/\∀ xs,SqT K H a xs->xs[i]?=some x,fun i H=>∃ xs,SqT K H a xs/\xs.length<=i⟩
def Itr (lo:Int)(n:Nat):It:=⟨fun i _=>i < n,fun i H x H'=>H'=H/\x=.int (lo+i),fun i _=>n<=i⟩
theorem ZhG {P:Qm}{w:QC}{K:Qb}{tg:Expr}(a it:Addr):Ub P w K tg (Itl K a) [it] it (fun i h=>h.IsListIter it a i) where
 mem:=by simp
 obj:=fun i h st b hb=>by
  have e:b=it:=by simpa using hb
  subst e
  obtain ⟨o,e,c,d⟩:=st
  exact ⟨o,e,fun v z=>by rw [d] at z;cases z⟩
 keep:=fun i h h' st k=>st.at fun o e=>k it (by simp) o e
 item:=by
  intro X hP hw hK hc i pins s σ H E I hf st hg
  subst hP hw hK
  obtain ⟨xs,x,hq,hx⟩:=hg
  obtain ⟨its,rv,p,hz⟩:=I.list hq
  obtain ⟨u,hu,ru⟩:=rv.get hx
  obtain ⟨f0,f1,f2,f3,f4,f5⟩:=hf it (by simp)
  refine wpAny_pyNext_list_item st p.isList (x:=u) (by simpa using hu) fun h' st' sb=>?_
  have I1:Inv X pins σ H { s with heap:=h' }:=I.turned (t':=s.toks) (fun b o hb e=>(sb.2 b hb).trans e) f0 f1 f3 f4 f5
  obtain ⟨o,e,c,d⟩:=id st'
  exact ⟨u,rfl,ZbR (s:={ s with heap:=h' }) e c d (by decide) ⟨x,H,I1,ru,⟨rfl,fun ys hy=>by rw [I.list_inj hy hq];exact hx⟩,st',fun b hb=>(hf b hb).1⟩⟩
 done:=by
  intro X hP hw hK hc i pins s σ H E I hf st hg
  subst hP hw hK
  obtain ⟨xs,hq,hx⟩:=hg
  obtain ⟨its,rv,p,hz⟩:=I.list hq
  obtain ⟨f0,f1,f2,f3,f4,f5⟩:=hf it (by simp)
  have hl:=rv.length
  exact wpAny_pyNext_list_end (I.ok.hd hc) st p.isList (by simp;omega) fun h' eb=>⟨rfl,I.turned (t':=s.toks) (fun b o hb e=>eb b o hb e) f0 f1 f3 f4 f5⟩
 self:=fun _ _ _ _ _ st h=>wpAny_pyIter_listiter st h
theorem Zhp {P:Qm}{w:QC}{K:Qb}{tg:Expr}(a it:Addr):Ub P w K tg (Itt K a) [it] it (fun i h=>h.IsTupleIter it a i) where
 mem:=by simp
 obj:=fun i h st b hb=>by
  have e:b=it:=by simpa using hb
  subst e
  obtain ⟨o,e,c,d⟩:=st
  exact ⟨o,e,fun v z=>by rw [d] at z;cases z⟩
 keep:=fun i h h' st k=>st.at fun o e=>k it (by simp) o e
 item:=by
  intro X hP hw hK hc i pins s σ H E I hf st hg
  subst hP hw hK
  obtain ⟨xs,x,hq,hx⟩:=hg
  obtain ⟨its,rv,p,hz⟩:=I.tuple hq
  obtain ⟨u,hu,ru⟩:=rv.get hx
  obtain ⟨f0,f1,f2,f3,f4,f5⟩:=hf it (by simp)
  refine wpAny_pyNext_tuple_item st (show s.heap.IsTuple a its.toArray from p) (x:=u) (by simpa using hu) fun h' st' sb=>?_
  have I1:Inv X pins σ H { s with heap:=h' }:=I.turned (t':=s.toks) (fun b o hb e=>(sb.2 b hb).trans e) f0 f1 f3 f4 f5
  obtain ⟨o,e,c,d⟩:=id st'
  exact ⟨u,rfl,ZbR (s:={ s with heap:=h' }) e c d (by decide) ⟨x,H,I1,ru,⟨rfl,fun ys hy=>by rw [I.tuple_inj hy hq];exact hx⟩,st',fun b hb=>(hf b hb).1⟩⟩
 done:=by
  intro X hP hw hK hc i pins s σ H E I hf st hg
  subst hP hw hK
  obtain ⟨xs,hq,hx⟩:=hg
  obtain ⟨its,rv,p,hz⟩:=I.tuple hq
  obtain ⟨f0,f1,f2,f3,f4,f5⟩:=hf it (by simp)
  have hl:=rv.length
  exact wpAny_pyNext_tuple_end (I.ok.hd hc) st (show s.heap.IsTuple a its.toArray from p) (by simp;omega) fun h' eb=>⟨rfl,I.turned (t':=s.toks) (fun b o hb e=>eb b o hb e) f0 f1 f3 f4 f5⟩
 self:=fun _ _ _ _ _ st h=>wpAny_pyIter_tupleiter st h
theorem ZgE {P:Qm}{w:QC}{K:Qb}{tg:Expr}(it:Addr)(lo:Int)(n:Nat):Ub P w K tg (Itr lo n) [it] it (fun i h=>IsRangeIter h it (lo+(i:Nat) * 1) ((n:Int) - (i:Nat)) 1) where
 mem:=by simp
 obj := fun i h st b hb=>by
  have e:b=it:=by simpa using hb
  subst e
  exact ⟨_,st,fun v z=>by
   have z':Data.fields _=Data.cell v:=z
   cases z'⟩
 keep:=fun i h h' st k=>k it (by simp) _ st
 item:=by
  intro X hP hw hK hc i pins s σ H E I hf st hg
  subst hP hw hK
  obtain ⟨f0,f1,f2,f3,f4,f5⟩:=hf it (by simp)
  have W:=Walks.range (prog:=X.prog) (w:=X.w) (I.ok.hd hc) it lo 1 n
  refine W.item i s _ _ hg st fun v h' tk hv st' kk=>?_
  obtain ⟨t,rfl⟩:=hv
  have I1:Inv X pins σ H { s with heap:=h',toks:=tk }:=I.turned (fun b o hb e=>kk b o (by simpa using hb) e) f0 f1 f3 f4 f5
  refine ⟨_,rfl,ZbR (s:={ s with heap:=h',toks:=tk }) (n:="range_iterator") st' rfl rfl (by decide) ⟨.int (lo+i),H,I1,⟨t,?_⟩,⟨rfl,rfl⟩,st',fun b hb=>(hf b hb).1⟩⟩
  rw [Int.mul_one]
 done:=by
  intro X hP hw hK hc i pins s σ H E I hf st hg
  subst hP hw hK
  obtain ⟨f0,f1,f2,f3,f4,f5⟩:=hf it (by simp)
  exact wpAny_pyNext_range_end (I.ok.hd hc) st (by have:n<=i:=hg;omega) fun h' eb=>⟨rfl,I.turned (t':=s.toks) (fun b o hb e=>eb b o hb e) f0 f1 f3 f4 f5⟩
 self:=fun _ _ _ _ _ st h=>wpAny_pyIter_rangeiter st h
section
variable {X:Cx}{tg:Expr}
def Zpl (K:Qb)(tl:TE):TI:=fun σ H R=>tl σ H fun x H1=>∃ a,x=.ref a/\(∃ xs,SqL K H1 a xs)/\R (Itl K a) H1
def iTup (K:Qb)(tl:TE):TI:=fun σ H R=>tl σ H fun x H1=>∃ a,x=.ref a/\(∃ xs,SqT K H1 a xs)/\R (Itt K a) H1
theorem ZcO {l:Expr}{tl:TE}(hl:PE X l tl):PI X tg l (Zpl X.K tl):=by
 intro pins s σ H R I h
 refine Zt (hl pins s σ H _ I h) fun v s1 ⟨x,H1,I1,r1,q1⟩=>?_
 obtain ⟨a,e,⟨xs,hq⟩,q⟩:=q1
 subst e
 cases r1
 obtain ⟨its,rv,p,hz⟩:=I1.list hq
 refine Jv p.isList ?_
 refine ⟨s1.heap.objs.size,[s1.heap.objs.size],_,_,H1,rfl,I1.kept (t':=s1.toks) fun b o e=>Qf _ e,ZhG a _,⟨_,Qn _ rfl,rfl,rfl⟩,fun b hb=>?_,q⟩
 have e:b=s1.heap.objs.size:=by simpa using hb
 subst e
 exact I1.fpOk (Qh _) (I1.hok.fresh (Qh _))
theorem ZbO {l:Expr}{tl:TE}(hl:PE X l tl):PI X tg l (iTup X.K tl):=by
 intro pins s σ H R I h
 refine Zt (hl pins s σ H _ I h) fun v s1 ⟨x,H1,I1,r1,q1⟩=>?_
 obtain ⟨a,e,⟨xs,hq⟩,q⟩:=q1
 subst e
 cases r1
 obtain ⟨its,rv,p,hz⟩:=I1.tuple hq
 refine Tf (show s1.heap.IsTuple a its.toArray from p) ?_
 refine ⟨s1.heap.objs.size,[s1.heap.objs.size],_,_,H1,rfl,I1.kept (t':=s1.toks) fun b o e=>Qf _ e,Zhp a _,⟨_,Qn _ rfl,rfl,rfl⟩,fun b hb=>?_,q⟩
 have e:b=s1.heap.objs.size:=by simpa using hb
 subst e
 exact I1.fpOk (Qh _) (I1.hok.fresh (Qh _))
theorem Zkl {pins:List (Addr×Obj)}{σ:St}{H:Hp}{s:Qg}{R:It->Hp->Prop}{E:Qe->Qg->Prop}{lo hi:Int}{t u v:Tok}{tk:Nat}(I:Inv X pins σ H s)(h1:-(2 ^ 62)<=lo)(h2:lo < 2 ^ 62)(h3:-(2 ^ 62)<=hi)(h4:hi < 2 ^ 62)
 (q:R (Itr lo (hi - lo).toNat) H):Qr (QA X.prog X.w) X.A (pyIter (.ref s.heap.objs.size)) (PIE X pins σ tg R) E { s with heap:=s.heap.push { cls:=.type "range",data:=.fields #[.int lo t,.int hi u,.int 1 v] },toks:=tk }:=by
 refine wpAny_pyIter_range (IsRange.new ..) (small_one h1 h2 h3 h4) ?_
 have I1:Inv X pins σ H { s with heap:=s.heap.push { cls:=.type "range",data:=.fields #[.int lo t,.int hi u,.int 1 v] },toks:=tk }:=I.kept fun b o e=>Qf _ e
 refine ⟨(s.heap.push { cls:=.type "range",data:=.fields #[.int lo t,.int hi u,.int 1 v] }).objs.size,[(s.heap.push { cls:=.type "range",data:=.fields #[.int lo t,.int hi u,.int 1 v] }).objs.size],_,_,H,rfl,
  I1.kept (t':=tk) fun b o e=>Qf _ e,ZgE _ lo (hi - lo).toNat,?_,fun b hb=>?_,q⟩
 ·have e1:lo+((0:Nat):Int) * 1=lo:=by simp
  have e2:(((hi - lo).toNat:Nat):Int) - ((0:Nat):Int)=Builtin.Range.rangeSize lo hi 1:=by rw [rangeSize_one];split<;>omega
  show IsRangeIter _ _ (lo+((0:Nat):Int) * 1) ((((hi - lo).toNat:Nat):Int) - ((0:Nat):Int)) 1
  rw [e1,e2]
  exact Qn _ rfl
 ·have e:b=(s.heap.push { cls:=.type "range",data:=.fields #[.int lo t,.int hi u,.int 1 v] }).objs.size:=by simpa using hb
  subst e
  exact I1.fpOk (Qh _) (I1.hok.fresh (Qh _))
def ZoZ (ta:TA):TI:=fun σ H R=>ta σ H fun vs H1=>∃ j:Int,vs=[.int j]/\-(2 ^ 62)<=j/\j < 2 ^ 62/\R (Itr 0 j.toNat) H1
theorem Ws {a:Expr}{ta:TA}{p pos:Pos}(hg:Gl X "range")(hm:X.mg "range"=none)(ha:PA X [a] ta)(hs:QH [a] X.env=[(false,eval a X.env)]:=by rfl):PI X tg (.Call (.Name "range" p) [a] [] pos) (ZoZ ta):=by
 intro pins s σ H R I h
 refine Call_ (Ug I hg hm boot_range (Gw (Zt (ha pos pins s σ H _ I h) fun us s1 ⟨vs,H1,I1,r1,q1⟩=>?_) hs rfl))
 obtain ⟨j,e,q1,q2,q⟩:=q1
 subst e
 cases r1 with
 | cons r rr =>
  cases rr
  obtain ⟨t,rfl⟩:=r
  exact call_range_1 (Zkl I1 (by omega) (by omega) q1 q2 (by simpa using q))
def tFor (wi:TI)(g:TG)(tb:TS):TS:=fun D σ H=>wi σ H fun J H1=>∃ W:Nat->Nat->St->Hp->Prop,(∃ m,W 0 m σ H1)/\∀ i m σ H,W i m σ H ->
 (J.stop i H/\D.nx σ H)\/(J.go i H/\∃ N:St->Hp->Prop,(∀ σ' H',N σ' H'->∃ m',m' < m/\W (i+1) m' σ' H')/\∀ x H',J.yld i H x H'->g x σ H' fun σ2 H2=>tb { D with nx:=N,ct:=N,bk:=D.nx } σ2 H2)
def Zch (fp:List Addr)(h:Heap):List (Addr×Obj):=fp.filterMap fun b=>(h.get? b).map fun o=>(b,o)
theorem Xc {fp:List Addr}{h:Heap}{b:Addr}{o:Obj}(hb:b∈fp)(e:h.get? b=some o):(b,o)∈Zch fp h:=mem_filterMap.mpr ⟨b,hb,by rw [e];rfl⟩
theorem ZiC {fp:List Addr}{h:Heap}{p:Addr×Obj}(hp:p∈Zch fp h):p.1∈fp/\h.get? p.1=some p.2:=by
 obtain ⟨b,hb,e⟩:=mem_filterMap.mp hp
 cases q:h.get? b with
 | none=>rw [q] at e;cases e
 | some o =>
  rw [q] at e
  have e':(b,o)=p:=QZ e
  subst e'
  exact ⟨hb,q⟩
theorem Inv.pinned {pins:List (Addr×Obj)}{σ:St}{H:Hp}{s:Qg}{fp:List Addr}(I:Inv X pins σ H s)(hf:∀ b∈fp,YM X pins H b)(ho:∀ b∈fp,∃ o,s.heap.get? b=some o/\∀ v,o.data≠.cell v):Inv X (pins++Zch fp s.heap) σ H s :=
 I.pins_of fun p hp=>(mem_append.mp hp).elim (fun z=>I.pin p (mem_append_right _ z)) fun z=>by
  obtain ⟨hb,e⟩:=ZiC z
  obtain ⟨f0,f1,f2,_⟩:=hf p.1 hb
  obtain ⟨o,e',d⟩:=ho p.1 hb
  rw [e] at e';cases e'
  exact ⟨e,f0,f1,f2,d⟩
theorem Inv.unpinned {pins pl:List (Addr×Obj)}{σ:St}{H:Hp}{s:Qg}(I:Inv X (pins++pl) σ H s):Inv X pins σ H s:=I.pins_of fun p hp=>I.pin p (mem_append_right _ (Ju _ hp))
theorem XX {iter:Expr}{body:List Stmt}{wi:TI}{g:TG}{tb:TS}{pos:Pos}(hp:PassesOwn (QA X.prog X.w) X.A X.env X.xe)(hc:X.calm=true)(hi:PI X tg iter wi)(hg:PG X tg g)(hb:PSs X body tb)
 (hs:∀ x,Jw iter X.env x=pure x:=by intro _;rfl):PS X (.For tg iter body [] pos) (tFor wi g tb):=by
 intro pins s σ H D I h
 refine wpAny_For (Zt (hi pins s σ H _ I h) fun v s1 h1=>Zt h1 fun itv s2 h2=>?_) hs
 obtain ⟨it,fp,tn,J,H2,e,I2,T,st2,f2,W,⟨m0,w0⟩,turn⟩:=h2
 subst e
 have stat:∀ {H':Hp},(∀ b∈fp,H' b=none)->∀ b∈fp,YM X pins H' b:=fun hn b hb=>⟨hn b hb,(f2 b hb).2⟩
 refine codeAny_forLoop_any (fun n s'=>∃ i σ' H',Inv X pins σ' H' s'/\tn i s'.heap/\(∀ b∈fp,H' b=none)/\W i n σ' H') ?_ m0 ⟨0,σ,H2,I2,st2,fun b hb=>(f2 b hb).1,w0⟩
 rintro n s3 ⟨i,σ3,H3,I3,st3,fr3,w3⟩
 rcases turn i n σ3 H3 w3 with ⟨stop,qn⟩ | ⟨go,N,hN,step⟩
 ·refine Jr hp (Zt (T.done X rfl rfl rfl hc i pins s3 σ3 H3 X.xe I3 (stat fr3) st3 stop) fun r s4 ⟨hr,I4⟩=>?_)
  subst hr
  exact SH ⟨σ3,H3,I4,qn⟩
 ·refine Jr hp (Zt (T.item X rfl rfl rfl hc i pins s3 σ3 H3 X.xe I3 (stat fr3) st3 go) fun r s4 ⟨u,hr,h4⟩=>?_)
  subst hr
  refine Jr hp (Zt h4 fun _ s5 ⟨x,H5,I5,r5,y5,st5,fr5⟩=>?_)
  have I5':=I5.pinned (stat fr5) (T.obj _ _ st5)
  refine Jr hp (Zt (hg _ s5 σ3 H5 x u _ I5' r5 (step x H5 y5)) fun _ s6 ⟨σ6,H6,I6,q6⟩=>?_)
  refine Jr hp (Zt (hb _ s6 σ6 H6 _ I6 q6) fun f s7 q7=>?_)
  have again:∀ {σ7:St} {H7:Hp},Inv X (pins++Zch fp s5.heap) σ7 H7 s7->N σ7 H7->∃ m,m < n/\∃ i σ' H',Inv X pins σ' H' s7/\tn i s7.heap/\(∀ b∈fp,H' b=none)/\W i m σ' H':=fun {σ7 H7} I7 n7=>by
   obtain ⟨m',hm,w7⟩:=hN σ7 H7 n7
   refine ⟨m',hm,i+1,σ7,H7,I7.unpinned,T.keep _ _ _ st5 fun b hb o e=>(I7.pin (b,o) (mem_append_right _ (mem_append_right _ (Xc hb e)))).1,fun b hb=>?_,w7⟩
   obtain ⟨o,e,d⟩:=T.obj _ _ st5 b hb
   exact (I7.pin (b,o) (mem_append_right _ (mem_append_right _ (Xc hb e)))).2.1
  cases f with
  | next=>obtain ⟨σ7,H7,I7,n7⟩:=q7;exact again I7 n7
  | cont=>obtain ⟨σ7,H7,I7,n7⟩:=q7;exact again I7 n7
  | brk=>obtain ⟨σ7,H7,I7,q7⟩:=q7;exact ⟨σ7,H7,I7.unpinned,q7⟩
  | ret v=>obtain ⟨x7,σ7,H7,I7,r7,q7⟩:=q7;exact ⟨x7,σ7,H7,I7.unpinned,r7,q7⟩
end
theorem Zks {K:Qb}{a:Addr}{xs:List V}{g:TG}{tb:TS}{D:Uz}{σ:St}{H:Hp}(Pv:Nat->St->Hp->Prop)(h0:Pv 0 σ H)(hl:∀ i σ H,i<=xs.length->Pv i σ H->SqL K H a xs)
 (hs:∀ i x σ H,xs[i]?=some x->Pv i σ H->g x σ H fun σ2 H2=>tb { D with nx:=Pv (i+1),ct:=Pv (i+1),bk:=D.nx } σ2 H2) (hd:∀ σ H,Pv xs.length σ H->D.nx σ H) :
 ∃ W:Nat->Nat->St->Hp->Prop,(∃ m,W 0 m σ H)/\∀ i m σ H,W i m σ H ->
  ((Itl K a).stop i H/\D.nx σ H)\/((Itl K a).go i H/\∃ N:St->Hp->Prop,(∀ σ' H',N σ' H'->∃ m',m' < m/\W (i+1) m' σ' H')/\∀ x H',(Itl K a).yld i H x H'->g x σ H' fun σ2 H2=>tb { D with nx:=N,ct:=N,bk:=D.nx } σ2 H2):=by
 refine ⟨fun i m σ H=>m=xs.length - i/\i<=xs.length/\Pv i σ H,⟨xs.length,by simp,Qp _,h0⟩,?_⟩
 rintro i m σ H ⟨rfl,hi,p⟩
 have q:=hl i σ H hi p
 by_cases hlt:i < xs.length
 ·refine .inr ⟨⟨xs,xs[i],q,by simp [hlt]⟩,Pv (i+1),fun σ' H' p'=>⟨xs.length - (i+1),by omega,rfl,hlt,p'⟩,fun x H' y=>?_⟩
  obtain ⟨e,y⟩:=y
  subst e
  exact hs i x σ _ (y xs q) p
 ·have e:i=xs.length:=by omega
  subst e
  exact .inl ⟨⟨xs,q,Qh _⟩,hd σ H p⟩
theorem ZfU {K:Qb}{a:Addr}{xs:List V}{g:TG}{tb:TS}{D:Uz}{σ:St}{H:Hp}(Pv:Nat->St->Hp->Prop)(h0:Pv 0 σ H)(hl:∀ i σ H,i<=xs.length->Pv i σ H->SqT K H a xs)
 (hs:∀ i x σ H,xs[i]?=some x->Pv i σ H->g x σ H fun σ2 H2=>tb { D with nx:=Pv (i+1),ct:=Pv (i+1),bk:=D.nx } σ2 H2) (hd:∀ σ H,Pv xs.length σ H->D.nx σ H) :
 ∃ W:Nat->Nat->St->Hp->Prop,(∃ m,W 0 m σ H)/\∀ i m σ H,W i m σ H ->
  ((Itt K a).stop i H/\D.nx σ H)\/((Itt K a).go i H/\∃ N:St->Hp->Prop,(∀ σ' H',N σ' H'->∃ m',m' < m/\W (i+1) m' σ' H')/\∀ x H',(Itt K a).yld i H x H'->g x σ H' fun σ2 H2=>tb { D with nx:=N,ct:=N,bk:=D.nx } σ2 H2):=by
 refine ⟨fun i m σ H=>m=xs.length - i/\i<=xs.length/\Pv i σ H,⟨xs.length,by simp,Qp _,h0⟩,?_⟩
 rintro i m σ H ⟨rfl,hi,p⟩
 have q:=hl i σ H hi p
 by_cases hlt:i < xs.length
 ·refine .inr ⟨⟨xs,xs[i],q,by simp [hlt]⟩,Pv (i+1),fun σ' H' p'=>⟨xs.length - (i+1),by omega,rfl,hlt,p'⟩,fun x H' y=>?_⟩
  obtain ⟨e,y⟩:=y
  subst e
  exact hs i x σ _ (y xs q) p
 ·have e:i=xs.length:=by omega
  subst e
  exact .inl ⟨⟨xs,q,Qh _⟩,hd σ H p⟩
theorem Vr {lo:Int}{n:Nat}{g:TG}{tb:TS}{D:Uz}{σ:St}{H:Hp}(Pv:Nat->St->Hp->Prop)(h0:Pv 0 σ H)
 (hs:∀ i σ H,i < n->Pv i σ H->g (.int (lo+i)) σ H fun σ2 H2=>tb { D with nx:=Pv (i+1),ct:=Pv (i+1),bk:=D.nx } σ2 H2) (hd:∀ σ H,Pv n σ H->D.nx σ H) :
 ∃ W:Nat->Nat->St->Hp->Prop,(∃ m,W 0 m σ H)/\∀ i m σ H,W i m σ H ->
  ((Itr lo n).stop i H/\D.nx σ H)\/((Itr lo n).go i H/\∃ N:St->Hp->Prop,(∀ σ' H',N σ' H'->∃ m',m' < m/\W (i+1) m' σ' H')/\∀ x H',(Itr lo n).yld i H x H'->g x σ H' fun σ2 H2=>tb { D with nx:=N,ct:=N,bk:=D.nx } σ2 H2):=by
 refine ⟨fun i m σ H=>m=n - i/\i<=n/\Pv i σ H,⟨n,by simp,Qp _,h0⟩,?_⟩
 rintro i m σ H ⟨rfl,hi,p⟩
 by_cases hlt:i < n
 ·refine .inr ⟨hlt,Pv (i+1),fun σ' H' p'=>⟨n - (i+1),by omega,rfl,hlt,p'⟩,fun x H' y=>?_⟩
  obtain ⟨e,y⟩:=y
  subst e y
  exact hs i σ _ hlt p
 ·have e:i=n:=by omega
  subst e
  exact .inl ⟨Qh _,hd σ H p⟩
abbrev R2:=V->V->Hp->VK->Prop
def Xi (X:Cx)(f:Qe->Qe->Sem Qe)(r:R2):Prop :=
 ∀ (pins:List (Addr×Obj)) (s:Qg) (σ:St) (H:Hp) (x y:V) (v u:Qe) (Q:VK),Inv X pins σ H s->RelV x v->RelV y u->r x y H Q ->
  Qr (QA X.prog X.w) X.A (f v u) (EP X pins σ Q) X.xe s
def UnR (X:Cx)(f:Qe->Sem Qe)(r:V->Hp->VK->Prop):Prop :=
 ∀ (pins:List (Addr×Obj)) (s:Qg) (σ:St) (H:Hp) (x:V) (v:Qe) (Q:VK),Inv X pins σ H s->RelV x v->r x H Q ->
  Qr (QA X.prog X.w) X.A (f v) (EP X pins σ Q) X.xe s
def Xe (X:Cx)(f:Qe)(r:List V->Hp->VK->Prop):Prop :=
 ∀ (pins:List (Addr×Obj)) (s:Qg) (σ:St) (H:Hp) (xs:List V) (us:List Qe) (Q:VK),Inv X pins σ H s->Vals xs us->r xs H Q ->
  Qr (QA X.prog X.w) X.A (call f us) (EP X pins σ Q) X.xe s
def TruR (X:Cx)(r:V->Hp->(Bool->Hp->Prop)->Prop):Prop :=
 ∀ (pins:List (Addr×Obj)) (s:Qg) (σ:St) (H:Hp) (x:V) (v:Qe) (Q:Bool->Hp->Prop),Inv X pins σ H s->RelV x v->r x H Q ->
  Qr (QA X.prog X.w) X.A (truthy v) (TP X pins σ Q) X.xe s
def tOp (r:R2)(ta tb:TE):TE:=fun σ H Q=>ta σ H fun x H1=>tb σ H1 fun y H2=>r x y H2 Q
def tUn (r:V->Hp->VK->Prop)(ta:TE):TE:=fun σ H Q=>ta σ H fun x H1=>r x H1 Q
def rI (C:Int->Int->Prop)(g:Int->Int->V):R2:=fun x y H Q=>∃ i j,x=.int i/\y=.int j/\C i j/\Q (g i j) H
def rI0 (g:Int->Int->V):R2:=fun x y H Q=>∃ i j,x=.int i/\y=.int j/\Q (g i j) H
def rU (g:Int->V):V->Hp->VK->Prop:=fun x H Q=>∃ i,x=.int i/\Q (g i) H
section
variable {X:Cx}{a b c:Expr}{ta tb tc:TE}{pos:Pos}
theorem ZkD (ha:PE X a ta)(hb:PE X b tb){pins:List (Addr×Obj)}{s:Qg}{σ:St}{H:Hp}{R:V->V->Hp->Prop}(I:Inv X pins σ H s)
 (h:ta σ H fun x H1=>tb σ H1 fun y H2=>R x y H2) {Q:Qe->Qg->Prop} {f:Qe->Qe->Sem Qe}
 (hf:∀ v u s2 x y H2,Inv X pins σ H2 s2->RelV x v->RelV y u->R x y H2->Qr (QA X.prog X.w) X.A (f v u) Q X.xe s2) :
 Qr (QA X.prog X.w) X.A (eval a X.env) (fun v s₁=>Qr (QA X.prog X.w) X.A (eval b X.env) (fun u s₂=>Qr (QA X.prog X.w) X.A (f v u) Q X.xe s₂) X.xe s₁) X.xe s:=by
 refine Zt (ha pins s σ H _ I h) fun v s1 ⟨x,H1,I1,r1,q1⟩=>?_
 refine Zt (hb pins s1 σ H1 _ I1 q1) fun u s2 ⟨y,H2,I2,r2,q2⟩=>?_
 exact hf v u s2 x y H2 I2 r1 r2 q2
theorem Zj {op:Operator}{r:R2}(ho:Xi X (Pb op) r)(ha:PE X a ta)(hb:PE X b tb):PE X (.BinOp a op b pos) (tOp r ta tb):=by
 intro pins s σ H Q I h
 exact wpAny_BinOp (ZkD ha hb I h fun v u s2 x y H2 I2 rx ry q=>ho pins s2 σ H2 x y v u Q I2 rx ry q)
theorem Vu {op:UnaryOp}{r:V->Hp->VK->Prop}(ho:UnR X (unaryOp op) r)(ha:PE X a ta):PE X (.UnaryOp op a pos) (tUn r ta):=by
 intro pins s σ H Q I h
 exact UnaryOp_ (Zt (ha pins s σ H _ I h) fun v s1 ⟨x,H1,I1,r1,q1⟩=>ho pins s1 σ H1 x v Q I1 r1 q1)
theorem opI {f:Qe->Qe->Sem Qe}{C:Int->Int->Prop}{g:Int->Int->Int}
 (rule:∀ (i j:Int) (t u:Tok) (s:Qg) (Q:Qe->Qg->Prop) (E:Qe->Qg->Prop),C i j->Q (.int (g i j) s.toks) { s with toks:=s.toks+1 }->Qr (QA X.prog X.w) X.A (f (.int i t) (.int j u)) Q E s) :
 Xi X f (rI C fun i j=>.int (g i j)):=by
 intro pins s σ H x y v u Q I rx ry h
 obtain ⟨i,j,rfl,rfl,hc,q⟩:=h
 obtain ⟨t,rfl⟩:=rx
 obtain ⟨t',rfl⟩:=ry
 exact rule i j t t' s _ _ hc ⟨.int (g i j),H,I.tok _,⟨_,rfl⟩,q⟩
theorem opI0 {f:Qe->Qe->Sem Qe}{g:Int->Int->Int}
 (rule:∀ (i j:Int) (t u:Tok) (s:Qg) (Q:Qe->Qg->Prop) (E:Qe->Qg->Prop),Q (.int (g i j) s.toks) { s with toks:=s.toks+1 }->Qr (QA X.prog X.w) X.A (f (.int i t) (.int j u)) Q E s) :
 Xi X f (rI0 fun i j=>.int (g i j)):=by
 intro pins s σ H x y v u Q I rx ry h
 obtain ⟨i,j,rfl,rfl,q⟩:=h
 obtain ⟨t,rfl⟩:=rx
 obtain ⟨t',rfl⟩:=ry
 exact rule i j t t' s _ _ ⟨.int (g i j),H,I.tok _,⟨_,rfl⟩,q⟩
theorem Zhq {f:Qe->Qe->Sem Qe}{g:Int->Int->Bool}
 (rule:∀ (i j:Int) (t u:Tok) (s:Qg) (Q:Qe->Qg->Prop) (E:Qe->Qg->Prop),Q (.bool (g i j)) s->Qr (QA X.prog X.w) X.A (f (.int i t) (.int j u)) Q E s) :
 Xi X f (rI0 fun i j=>.bl (g i j)):=by
 intro pins s σ H x y v u Q I rx ry h
 obtain ⟨i,j,rfl,rfl,q⟩:=h
 obtain ⟨t,rfl⟩:=rx
 obtain ⟨t',rfl⟩:=ry
 exact rule i j t t' s _ _ ⟨.bl (g i j),H,I,rfl,q⟩
def CDiv (i j:Int):Prop:=0 < j/\j < 1073741824
def CPow (i j:Int):Prop:=0<=j/\j<=1000000/\i.natAbs < 2 ^ 64
def CMul (i j:Int):Prop:=(-(2 ^ 64) < i/\i < 2 ^ 64)\/(-(2 ^ 64) < j/\j < 2 ^ 64)
theorem CMul.ok {i j:Int}(h:CMul i j):IntMulOk i j:=by
 rcases h with ⟨h1,h2⟩ | ⟨h1,h2⟩
 ·exact .of_left (intBits_le_64 h1 h2)
 ·exact .of_right (intBits_le_64 h1 h2)
theorem ZO:Xi X (Pb .Add) (rI0 fun i j=>.int (i+j)):=opI0 fun _ _ _ _ _ _ _ q=>add_int q
theorem Xh:Xi X (Pb .Sub) (rI0 fun i j=>.int (i - j)):=opI0 fun _ _ _ _ _ _ _ q=>sub_int q
theorem UO:Xi X (Pb .Mult) (rI CMul fun i j=>.int (i * j)):=opI fun _ _ _ _ _ _ _ hc q=>mul_int q hc.ok
theorem ZcV:Xi X (Pb .FloorDiv) (rI CDiv fun i j=>.int (i / j)):=opI fun i j _ _ _ _ _ hc q=>by
 have h1:(0:Int) < j:=hc.1
 have h2:j < 1073741824:=hc.2
 exact floordiv_int (by omega) (by rw [Pn i (by omega)];exact q) (.inl (Of (by omega)))
theorem WE:Xi X (Pb .Mod) (rI (fun _ j=>0 < j) fun i j=>.int (i % j)):=opI fun i j _ _ _ _ _ hc q=>by
 have h1:(0:Int) < j:=hc
 exact mod_int' (by omega) (by rw [Rj i (by omega)];exact q)
theorem Zcf:Xi X (Pb .Pow) (rI CPow fun i j=>.int (i ^ j.toNat)):=opI fun _ _ _ _ _ _ _ hc q=>pow_int_small hc.1 hc.2.1 hc.2.2 q
theorem unI {f:Qe->Sem Qe}{g:Int->Int}
 (rule:∀ (i:Int) (t:Tok) (s:Qg) (Q:Qe->Qg->Prop) (E:Qe->Qg->Prop),Q (.int (g i) s.toks) { s with toks:=s.toks+1 }->Qr (QA X.prog X.w) X.A (f (.int i t)) Q E s) :
 UnR X f (rU fun i=>.int (g i)):=by
 intro pins s σ H x v Q I rx h
 obtain ⟨i,rfl,q⟩:=h
 obtain ⟨t,rfl⟩:=rx
 exact rule i t s _ _ ⟨.int (g i),H,I.tok _,⟨_,rfl⟩,q⟩
theorem UM:UnR X (unaryOp .USub) (rU fun i=>.int (-i)):=unI fun _ _ _ _ _ q=>neg_int q
end
def Zgo:V->V->Bool
 | .non,.non=>true | .non,.int _=>true | .int _,.non=>true | .non,.bl _=>true | .bl _,.non=>true | .non,.str _=>true | .str _,.non=>true
 | .int _,.int _=>true | .bl _,.bl _=>true | .str _,.str _=>true | .byt _,.byt _=>true
 | .int _,.str _=>true | .str _,.int _=>true | .bl _,.str _=>true | .str _,.bl _=>true
 | _,_=>false
def rEq:R2:=fun x y H Q=>Zgo x y=true/\Q (.bl (decide (x=y))) H
def rNe:R2:=fun x y H Q=>Zgo x y=true/\Q (.bl (!decide (x=y))) H
theorem Zgg {i j:Int}:decide (V.int i=V.int j)=(i == j):=by
 rw [Jc]
 simp
theorem Zhy {i j:Bool}:decide (V.bl i=V.bl j)=(i == j):=by
 rw [Jc]
 simp
theorem ZfL {i j:Str}:decide (V.str i=V.str j)=(i == j):=by
 rw [Jc]
 simp
theorem ZfZ {i j:Array UInt8}:decide (V.byt i=V.byt j)=(i.toList == j.toList):=by
 rw [Jc]
 cases i
 cases j
 simp
section
variable {X:Cx}{a b c:Expr}{ta tb tc:TE}{pos:Pos}
theorem Yh {pins:List (Addr×Obj)}{σ:St}{H:Hp}{s:Qg}{Q:VK}{k k':Bool}(I:Inv X pins σ H s)(q:Q (.bl k) H)(e:k=k'):EP X pins σ Q (.bool k') s:=by
 subst e
 exact ⟨.bl k,H,I,rfl,q⟩
theorem Xb:Xi X (GO .Eq) rEq:=by
 intro pins s σ H x y v u Q I rx ry h
 obtain ⟨hs,q⟩:=h
 cases x with
 | non =>
  cases rx
  cases y with
  | non=>cases ry;exact PySem.EqNone.eq_none_none (Yh I q (by simp))
  | bl j=>cases ry;exact PySem.EqNone.eq_none_bool (Yh I q (by simp))
  | int j=>obtain ⟨t',rfl⟩:=ry;exact PySem.EqNone.eq_none_int (Yh I q (by simp))
  | str j=>obtain ⟨t',rfl⟩:=ry;exact PySem.EqNone.eq_none_str (Yh I q (by simp))
  | _=>exact absurd (show false=true from hs) Qv
 | bl i =>
  cases rx
  cases y with
  | non=>cases ry;exact PySem.EqNone.eq_bool_none (Yh I q (by simp))
  | bl j=>cases ry;exact eq_bool (Yh I q Zhy)
  | str j=>obtain ⟨t',rfl⟩:=ry;exact PySem.EqMixed.eq_bool_str (Yh I q (by simp))
  | _=>exact absurd (show false=true from hs) Qv
 | int i =>
  obtain ⟨t,rfl⟩:=rx
  cases y with
  | non=>cases ry;exact PySem.EqNone.eq_int_none (Yh I q (by simp))
  | int j=>obtain ⟨t',rfl⟩:=ry;exact eq_int (Yh I q Zgg)
  | str j=>obtain ⟨t',rfl⟩:=ry;exact PySem.EqMixed.eq_int_str (Yh I q (by simp))
  | _=>exact absurd (show false=true from hs) Qv
 | str i =>
  obtain ⟨t,rfl⟩:=rx
  cases y with
  | non=>cases ry;exact PySem.EqNone.eq_str_none (Yh I q (by simp))
  | bl j=>cases ry;exact PySem.EqMixed.eq_str_bool (Yh I q (by simp))
  | int j=>obtain ⟨t',rfl⟩:=ry;exact PySem.EqMixed.eq_str_int (Yh I q (by simp))
  | str j=>obtain ⟨t',rfl⟩:=ry;exact eq_str (Yh I q ZfL)
  | _=>exact absurd (show false=true from hs) Qv
 | byt i =>
  obtain ⟨t,rfl⟩:=rx
  cases y with
  | byt j=>obtain ⟨t',rfl⟩:=ry;exact PySem.W.eq_bytes (Yh I q ZfZ)
  | _=>exact absurd (show false=true from hs) Qv
 | _=>cases y<;>exact absurd (show false=true from hs) Qv
theorem WK:Xi X (GO .NotEq) rNe:=by
 intro pins s σ H x y v u Q I rx ry h
 obtain ⟨hs,q⟩:=h
 cases x with
 | non =>
  cases rx
  cases y with
  | non=>cases ry;exact PySem.EqNone.ne_none_none (Yh I q (by simp))
  | bl j=>cases ry;exact PySem.EqNone.ne_none_bool (Yh I q (by simp))
  | int j=>obtain ⟨t',rfl⟩:=ry;exact PySem.EqNone.ne_none_int (Yh I q (by simp))
  | str j=>obtain ⟨t',rfl⟩:=ry;exact PySem.EqNone.ne_none_str (Yh I q (by simp))
  | _=>exact absurd (show false=true from hs) Qv
 | bl i =>
  cases rx
  cases y with
  | non=>cases ry;exact PySem.EqNone.ne_bool_none (Yh I q (by simp))
  | bl j=>cases ry;exact ne_bool (Yh I q (congrArg not Zhy))
  | str j=>obtain ⟨t',rfl⟩:=ry;exact PySem.EqMixed.ne_bool_str (Yh I q (by simp))
  | _=>exact absurd (show false=true from hs) Qv
 | int i =>
  obtain ⟨t,rfl⟩:=rx
  cases y with
  | non=>cases ry;exact PySem.EqNone.ne_int_none (Yh I q (by simp))
  | int j=>obtain ⟨t',rfl⟩:=ry;exact ne_int (Yh I q (congrArg not Zgg))
  | str j=>obtain ⟨t',rfl⟩:=ry;exact PySem.EqMixed.ne_int_str (Yh I q (by simp))
  | _=>exact absurd (show false=true from hs) Qv
 | str i =>
  obtain ⟨t,rfl⟩:=rx
  cases y with
  | non=>cases ry;exact PySem.EqNone.ne_str_none (Yh I q (by simp))
  | bl j=>cases ry;exact PySem.EqMixed.ne_str_bool (Yh I q (by simp))
  | int j=>obtain ⟨t',rfl⟩:=ry;exact PySem.EqMixed.ne_str_int (Yh I q (by simp))
  | str j=>obtain ⟨t',rfl⟩:=ry;exact ne_str (Yh I q (congrArg not ZfL))
  | _=>exact absurd (show false=true from hs) Qv
 | byt i =>
  obtain ⟨t,rfl⟩:=rx
  cases y with
  | byt j=>obtain ⟨t',rfl⟩:=ry;exact PySem.W.ne_bytes (Yh I q (congrArg not ZfZ))
  | _=>exact absurd (show false=true from hs) Qv
 | _=>cases y<;>exact absurd (show false=true from hs) Qv
theorem UF:Xi X (GO .Lt) (rI0 fun i j=>.bl (decide (i < j))):=Zhq fun _ _ _ _ _ _ _ q=>lt_int q
theorem UD:Xi X (GO .LtE) (rI0 fun i j=>.bl (decide (i<=j))):=Zhq fun _ _ _ _ _ _ _ q=>le_int q
theorem UG:Xi X (GO .Gt) (rI0 fun i j=>.bl (decide (j < i))):=Zhq fun _ _ _ _ _ _ _ q=>gt_int q
theorem ZpU:Xi X (GO .GtE) (rI0 fun i j=>.bl (decide (j<=i))):=Zhq fun _ _ _ _ _ _ _ q=>ge_int q
theorem ZC (b:Expr){op:Mw}(h:op≠.In:=by decide)(h2:op≠.NotIn:=by decide):JH op b=false:=by
 have e1:(op == CmpOp.In)=false:=by cases op<;>first | rfl | exact absurd rfl h
 have e2:(op == CmpOp.NotIn)=false:=by cases op<;>first | rfl | exact absurd rfl h2
 cases b<;>simp [JH,e1,e2]
theorem Xv {op:Mw}{r:R2}(ho:Xi X (GO op) r)(ha:PE X a ta)(hb:PE X b tb)(hm:JH op b=false):PE X (.Compare a [op] [b] pos) (tOp r ta tb):=by
 intro pins s σ H Q I h
 exact wpAny_Compare1 (ZkD ha hb I h fun v u s2 x y H2 I2 rx ry q=>ho pins s2 σ H2 x y v u Q I2 rx ry q) hm
def Zlz (t:TE):TT:=fun σ H Q=>t σ H fun x H'=>∃ k,x=.bl k/\Q k H'
theorem ZA {op:Mw}{r:R2}(ho:Xi X (GO op) r)(ha:PE X a ta)(hb:PE X b tb)(hm:JH op b=false):PT X (.Compare a [op] [b] pos) (Zlz (tOp r ta tb)):=by
 intro pins s σ H Q I h
 refine OE (Zt (ha pins s σ H _ I h) fun v s1 ⟨x,H1,I1,r1,q1⟩=>Zt (hb pins s1 σ H1 _ I1 q1) fun u s2 ⟨y,H2,I2,r2,q2⟩ =>
  Zt (ho pins s2 σ H2 x y v u _ I2 r1 r2 q2) fun c s3 ⟨z,H3,I3,r3,k,e,q3⟩=>?_) hm
 subst e
 cases r3
 exact Gi ⟨H3,I3,q3⟩
def Zjf (r r':R2)(ta tb tc:TE):TE:=fun σ H Q=>ta σ H fun x H1=>tb σ H1 fun y H2=>r x y H2 fun z H3=>∃ k,z=.bl k /\
 (if k=true then tc σ H3 fun w' H4=>r' y w' H4 Q else Q (.bl false) H3)
theorem Wv {op op':Mw}{r r':R2}(ho:Xi X (GO op) r)(ho':Xi X (GO op') r')(ha:PE X a ta)(hb:PE X b tb)(hc:PE X c tc)
 (hm:lastMarks [op,op'] [b,c]=false:=by with_unfolding_all rfl):PE X (.Compare a [op,op'] [b,c] pos) (Zjf r r' ta tb tc):=by
 intro pins s σ H Q I h
 refine Compare_chain (Zt (ha pins s σ H _ I h) fun v s1 ⟨x,H1,I1,r1,q1⟩=>chain_link (Zt (hb pins s1 σ H1 _ I1 q1) fun u s2 ⟨y,H2,I2,r2,q2⟩ =>
  Zt (ho pins s2 σ H2 x y v u _ I2 r1 r2 q2) fun d s3 ⟨z,H3,I3,r3,k,e,q3⟩=>?_)) hm
 subst e
 cases r3
 refine Gi ?_
 cases k with
 | false=>exact ite_ff ⟨.bl false,H3,I3,rfl,q3⟩
 | true=>exact ite_tt (chain_last (Zt (hc pins s3 σ H3 _ I3 q3) fun w' s4 ⟨z',H4,I4,r4,q4⟩=>ho' pins s4 σ H4 y z' u w' Q I4 r2 r4 q4))
theorem ZdW {op op':Mw}{r r':R2}(ho:Xi X (GO op) r)(ho':Xi X (GO op') r')(ha:PE X a ta)(hb:PE X b tb)(hc:PE X c tc)
 (hm:lastMarks [op,op'] [b,c]=false:=by with_unfolding_all rfl):PT X (.Compare a [op,op'] [b,c] pos) (Zlz (Zjf r r' ta tb tc)):=by
 intro pins s σ H Q I h
 refine isTrue_chain (Zt (ha pins s σ H _ I h) fun v s1 ⟨x,H1,I1,r1,q1⟩=>test_link (Zt (hb pins s1 σ H1 _ I1 q1) fun u s2 ⟨y,H2,I2,r2,q2⟩ =>
  Zt (ho pins s2 σ H2 x y v u _ I2 r1 r2 q2) fun d s3 ⟨z,H3,I3,r3,k,e,q3⟩=>?_)) hm
 subst e
 cases r3
 refine Gi ?_
 cases k with
 | false =>
  obtain ⟨k',e',q'⟩:=q3
  cases e'
  exact ite_ff ⟨H3,I3,q'⟩
 | true =>
  refine ite_tt (test_last (Zt (hc pins s3 σ H3 _ I3 q3) fun w' s4 ⟨z',H4,I4,r4,q4⟩=>Zt (ho' pins s4 σ H4 y z' u w' _ I4 r2 r4 q4) fun d' s5 ⟨z2,H5,I5,r5,k2,e2,q5⟩=>?_))
  subst e2
  cases r5
  exact Gi ⟨H5,I5,q5⟩
def TruV (K:Qb)(x:V)(H:Hp)(k:Bool):Prop :=
 match x with
 | .non=>k=false
 | .bl b=>k=b
 | .int i=>k=(i != 0)
 | .str y=>y.length<=Qi/\k=((y.length:Int) != 0)
 | .byt y=>y.size<=Qi/\k=((y.size:Int) != 0)
 | .ref p=>(∃ xs,SqL K H p xs/\k=!xs.isEmpty)\/(∃ xs,SqT K H p xs/\k=!xs.isEmpty)\/∃ kvs,H p=some (.dK kvs)/\k=!kvs.isEmpty
 | _=>False
theorem ZgG {κ:Type}{kvs:List (κ×V)}{vs:List (κ×Qe)}(r:KV kvs vs):(!vs.isEmpty)=!kvs.isEmpty:=by
 cases r<;>rfl
theorem Zcb {xs:List V}{its:List Qe}(r:Vals xs its):(!its.toArray.isEmpty)=!xs.isEmpty:=by
 cases r<;>simp
theorem UJ:(Qi:Nat) < 2 ^ 63:=by rw [GV];decide
theorem ZnH:TruR X (fun x H Q=>∃ k,TruV X.K x H k/\Q k H):=by
 intro pins s σ H x v Q I rx h
 obtain ⟨k,e,q⟩:=h
 have hl:=UJ
 have hs:Qi=16777216:=GV
 cases x with
 | non =>
  cases rx
  have e':k=false:=e
  subst e'
  exact truthy_none ⟨H,I,q⟩
 | bl b =>
  cases rx
  have e':k=b:=e
  subst e'
  exact Gi ⟨H,I,q⟩
 | int i =>
  obtain ⟨t,rfl⟩:=rx
  have e':k=(i != 0):=e
  subst e'
  exact PySem.P.truthy_int ⟨H,I,q⟩
 | str y =>
  obtain ⟨t,rfl⟩:=rx
  obtain ⟨hy,e'⟩:y.length<=Qi/\k=((y.length:Int) != 0):=e
  subst e'
  exact PySem.P.truthy_str (by omega) ⟨H,I.tok _,q⟩
 | byt y =>
  obtain ⟨t,rfl⟩:=rx
  obtain ⟨hy,e'⟩:y.size<=Qi/\k=((y.size:Int) != 0):=e
  subst e'
  exact PySem.W.truthy_bytes (by omega) ⟨H,I.tok _,q⟩
 | ref p =>
  cases rx
  have e':(∃ xs,SqL X.K H p xs/\k=!xs.isEmpty)\/(∃ xs,SqT X.K H p xs/\k=!xs.isEmpty)\/∃ kvs,H p=some (.dK kvs)/\k=!kvs.isEmpty:=e
  rcases e' with ⟨xs,hx,e'⟩ | ⟨xs,hx,e'⟩ | ⟨kvs,hx,e'⟩
  ·subst e'
   obtain ⟨its,r,pl,hz⟩:=I.list hx
   have hlen:=r.length
   exact wpAny_truthy_list pl.isList (by simp only [size_toArray];omega) ⟨H,I.tok _,by rw [Zcb r];exact q⟩
  ·subst e'
   obtain ⟨its,r,pl,hz⟩:=I.tuple hx
   have hlen:=r.length
   exact truthy_tuple pl (by simp only [size_toArray];omega) ⟨H,I.tok _,by rw [Zcb r];exact q⟩
  ·subst e'
   obtain ⟨hz,hS,vs,r,m⟩:kvs.length<=Qi/\(p == Jh)=false/\∃ vs,KV kvs vs/\s.heap.DictOf (YK X.prog X.w) p vs:=I.hok p _ hx
   have hlen:kvs.length=vs.length:=RF r
   exact wpAny_truthy_dict hS m (by omega) ⟨H,I.tok _,by rw [ZgG r];exact q⟩
 | _=>exact (show False from e).elim
theorem Zef (ha:PE X a ta)(he:∀ whole,isTrue a X.env whole=(do let v <- whole;MM a.pos;NI [v] (truthy v))) :
 PT X a (fun σ H Q=>ta σ H fun x H'=>∃ k,TruV X.K x H' k/\Q k H'):=by
 intro pins s σ H Q I h
 exact NJ (Zt (ha pins s σ H _ I h) fun v s1 ⟨x,H1,I1,r1,q1⟩=>ZnH pins s1 σ H1 x v Q I1 r1 q1) (he _)
theorem ZJ:Xi X (Pb .Add) (fun x y H Q=>∃ i j,x=.str i/\y=.str j/\i.length+j.length<=Qi/\Q (.str (i++j)) H):=by
 intro pins s σ H x y v u Q I rx ry h
 obtain ⟨i,j,rfl,rfl,hz,q⟩:=h
 obtain ⟨t,rfl⟩:=rx
 obtain ⟨t',rfl⟩:=ry
 exact add_str (fun t' tk=>⟨.str (i++j),H,I.tok _,⟨_,rfl⟩,q⟩) hz
theorem Zfq:Xi X (inplaceOp .Add) (fun x y H Q=>∃ i j,x=.str i/\y=.str j/\i.length+j.length<=Qi/\Q (.str (i++j)) H):=by
 intro pins s σ H x y v u Q I rx ry h
 obtain ⟨i,j,rfl,rfl,hz,q⟩:=h
 obtain ⟨t,rfl⟩:=rx
 obtain ⟨t',rfl⟩:=ry
 exact iadd_str (fun t' tk=>⟨.str (i++j),H,I.tok _,⟨_,rfl⟩,q⟩) hz
theorem YU {x:V}{us:List Qe}(r:Vals [x] us):∃ u,us=[u]/\RelV x u:=by
 cases r with
 | cons r1 r2=>cases r2;exact ⟨_,rfl,r1⟩
theorem VZ {x y:V}{us:List Qe}(r:Vals [x,y] us):∃ u w',us=[u,w']/\RelV x u/\RelV y w':=by
 cases r with
 | cons r1 r2 =>
  cases r2 with
  | cons r3 r4=>cases r4;exact ⟨_,_,rfl,r1,r3⟩
theorem ZeI:Xe X (.builtin "abs") (fun xs H Q=>∃ i,xs=[.int i]/\Q (.int (if i < 0 then -i else i)) H):=by
 intro pins s σ H xs us Q I r h
 obtain ⟨i,rfl,q⟩:=h
 obtain ⟨u,rfl,t,rfl⟩:=YU r
 exact call_abs_int fun u tk=>⟨.int (if i < 0 then -i else i),H,I.tok _,⟨_,rfl⟩,q⟩
theorem ZhC (hc:X.calm=true):Xe X (.builtin "max") (fun xs H Q=>∃ i j,xs=[.int i,.int j]/\Q (.int (if j > i then j else i)) H):=by
 intro pins s σ H xs us Q I r h
 obtain ⟨i,j,rfl,q⟩:=h
 obtain ⟨u,w',rfl,⟨t,rfl⟩,⟨t',rfl⟩⟩:=VZ r
 refine max_two_ints (I.ok.hd hc) fun h' tk k=>⟨_,H,I.kept k,?_,q⟩
 by_cases hj:j > i
 ·rw [if_pos hj,if_pos hj];exact ⟨_,rfl⟩
 ·rw [if_neg hj,if_neg hj];exact ⟨_,rfl⟩
theorem ZhH (hc:X.calm=true):Xe X (.builtin "min") (fun xs H Q=>∃ i j,xs=[.int i,.int j]/\Q (.int (if j < i then j else i)) H):=by
 intro pins s σ H xs us Q I r h
 obtain ⟨i,j,rfl,q⟩:=h
 obtain ⟨u,w',rfl,⟨t,rfl⟩,⟨t',rfl⟩⟩:=VZ r
 refine min_two_ints (I.ok.hd hc) fun h' tk k=>⟨_,H,I.kept k,?_,q⟩
 by_cases hj:j < i
 ·rw [if_pos hj,if_pos hj];exact ⟨_,rfl⟩
 ·rw [if_neg hj,if_neg hj];exact ⟨_,rfl⟩
theorem ZaK:Xe X (.type "int") (fun xs H Q=>(∃ i,xs=[.int i]/\Q (.int i) H)\/∃ k,xs=[.bl k]/\Q (.int (if k then 1 else 0)) H):=by
 intro pins s σ H xs us Q I r h
 rcases h with ⟨i,rfl,q⟩ | ⟨k,rfl,q⟩
 ·obtain ⟨u,rfl,t,rfl⟩:=YU r
  exact call_int_int ⟨.int i,H,I,⟨_,rfl⟩,q⟩
 ·obtain ⟨u,rfl,r1⟩:=YU r
  cases r1
  exact call_int_bool ⟨.int (if k then 1 else 0),H,I.tok _,⟨_,rfl⟩,q⟩
theorem ZeQ:Xe X (.type "str") (fun xs H Q=>∃ i,xs=[.int i]/\i.natAbs.log2 < 1920/\Q (.str (Gn i)) H):=by
 intro pins s σ H xs us Q I r h
 obtain ⟨i,rfl,hz,q⟩:=h
 obtain ⟨u,rfl,t,rfl⟩:=YU r
 exact PySem.P.str_of_int hz ⟨.str _,H,I.tok _,⟨_,rfl⟩,q⟩
def ZkY (K:Qb)(x:V)(H:Hp)(n:Nat):Prop :=
 match x with
 | .str y=>y.length<=Qi/\n=y.length
 | .byt y=>y.size<=Qi/\n=y.size
 | .ref p=>(∃ xs,SqL K H p xs/\n=xs.length)\/∃ xs,SqT K H p xs/\n=xs.length
 | _=>False
theorem Zjz:Xe X (.builtin "len") (fun xs H Q=>∃ x n,xs=[x]/\ZkY X.K x H n/\Q (.int n) H):=by
 intro pins s σ H xs us Q I r h
 obtain ⟨x,n,rfl,e,q⟩:=h
 obtain ⟨u,rfl,rx⟩:=YU r
 have hl:=UJ
 have hs:Qi=16777216:=GV
 cases x with
 | str y =>
  obtain ⟨t,rfl⟩:=rx
  obtain ⟨hy,e'⟩:y.length<=Qi/\n=y.length:=e
  subst e'
  exact len_str (by omega) ⟨.int _,H,I.tok _,⟨_,rfl⟩,q⟩
 | byt y =>
  obtain ⟨t,rfl⟩:=rx
  obtain ⟨hy,e'⟩:y.size<=Qi/\n=y.size:=e
  subst e'
  exact PySem.W.len_bytes (by omega) ⟨.int _,H,I.tok _,⟨_,rfl⟩,q⟩
 | ref p =>
  cases rx
  have e':(∃ xs,SqL X.K H p xs/\n=xs.length)\/∃ xs,SqT X.K H p xs/\n=xs.length:=e
  rcases e' with ⟨xs,hx,e'⟩ | ⟨xs,hx,e'⟩
  ·subst e'
   obtain ⟨its,r',pl,hz⟩:=I.list hx
   have hlen:=r'.length
   exact Ng pl.isList (by simp only [size_toArray];omega) ⟨.int xs.length,H,I.tok _,⟨_,by simp only [size_toArray];rw [hlen]⟩,q⟩
  ·subst e'
   obtain ⟨its,r',pl,hz⟩:=I.tuple hx
   have hlen:=r'.length
   exact len_tuple pl (by simp only [size_toArray];omega) ⟨.int xs.length,H,I.tok _,⟨_,by simp only [size_toArray];rw [hlen]⟩,q⟩
 | _=>exact (show False from e).elim
theorem Zfi:Xe X (.builtin "divmod") (fun xs H Q=>∃ i j,xs=[.int i,.int j]/\CDiv i j/\∀ p,H p=none->Q (.ref p) (upd H p (.tup [.int (i / j),.int (i % j)]))):=by
 intro pins s σ H xs us Q I r h
 obtain ⟨i,j,rfl,⟨h1,h2⟩,q⟩:=h
 obtain ⟨u,w',rfl,⟨t,rfl⟩,⟨t',rfl⟩⟩:=VZ r
 refine divmod_int (by omega) ?_ (.inl (Of (by omega)))
 rw [Pn i (by omega),Rj i (by omega)]
 have hn:H s.heap.objs.size=none:=I.hok.fresh (Qh _)
 refine ⟨.ref s.heap.objs.size,_,?_,rfl,q _ hn⟩
 refine I.laid (fun b o e=>Qf _ e) (Qh _) ⟨by simp only [length_cons,length_nil];rw [GV];decide,[.int (i / j) s.toks,.int (i % j) (s.toks+1)],.cons ⟨_,rfl⟩ (.cons ⟨_,rfl⟩ .nil),?_⟩
 exact ⟨_,Qn s.heap rfl,rfl,0,rfl⟩
end
structure ObjM (h:Heap)(x dx C:Addr)(mA:Str->Option Qe):Prop where
 obj:h.get? x=some (Oy C dx)
 ns:h.Ns1 dx mA
 ne:dx≠x
theorem ZhY {h:Heap}{dx:Addr}{mA:Str->Option Qe}(n:h.Ns1 dx mA):∃ od,h.get? dx=some od/\∀ name,ON name od=some (mA name):=by
 obtain ⟨o,es,ep,ho,hd,hk,_,hm⟩:=n
 refine ⟨o,ho,fun name=>?_⟩
 have e:=hm name
 unfold nsFind findBy at e
 rw [<- Nv] at e
 unfold ON
 rw [hd]
 dsimp only
 split
 ·rename_i y q
  rw [q] at e
  exact congrArg some e
 ·rename_i q
  rw [q] at e
  have a:es.toList.any (·.refKey)=false:=by
   rw [List.any_eq_false]
   intro y hy
   obtain ⟨z,t,hkey⟩:=hk y (Array.mem_toList_iff.mp hy)
   simp [DictEntry.refKey,hkey]
  have a':¬ es.toList.any (·.refKey)=true:=by rw [a];exact Qv
  rw [if_neg a']
  exact congrArg some e
theorem ObjM.look {h:Heap}{x dx C:Addr}{mA:Str->Option Qe}(I:ObjM h x dx C mA):∃ od,PySem.W.InstAt h x (Oy C dx) C (some od)/\∀ name,ON name od=some (mA name) :=
 let ⟨od,ho,hl⟩:=ZhY I.ns
 ⟨od,⟨I.obj,rfl,rfl,ho⟩,hl⟩
section
variable {prog:Qm}{w:QC}{A:QK}{E:Qe->Qg->Prop}{s:Qg}{K:Qb}{x dx C f:Addr}{mA:Str->Option Qe}{name:Str}{v:Qe}
end
theorem RelO.some_of {v:V}{o:Option Qe}(r:RelO (some v) o):∃ u,o=some u/\RelV v u:=by
 cases o with
 | none=>exact (show False from r).elim
 | some u=>exact ⟨u,rfl,r⟩
theorem RelO.none_of {o:Option Qe}(r:RelO none o):o=none:=by
 cases o with
 | none=>rfl
 | some u=>exact (show False from r).elim
theorem Zjm {v:V}{u:Qe}(r:RelV v u):PySem.W.handedIn u=true:=by
 cases v with
 | non=>cases (show u=Gb from r);rfl
 | bl b=>cases (show u=Rg b from r);rfl
 | int i=>obtain ⟨t,e⟩:=(show ∃ t,u=Sg i t from r);cases e;rfl
 | str x=>obtain ⟨t,e⟩:=(show ∃ t,u=Tl x t from r);cases e;rfl
 | byt b=>obtain ⟨t,e⟩:=(show ∃ t,u=Value.bytes b t from r);cases e;rfl
 | flt b=>obtain ⟨t,e⟩:=(show ∃ t,u=OK b t from r);cases e;rfl
 | ref a=>cases (show u=Qz a from r);rfl
 | ty n=>cases (show u=Td n from r);rfl
section
variable {P:Qm}{w:QC}{H H':Hp}{h h':Heap}{a C dx:Addr}{fs fs':List (Str×V)}
theorem ZfX (hok:HOk P w H h)(e:H a=some (.ins C dx fs)):∃ mA,ObjM h a dx C mA/\(∀ f,RelO (fs.lookup f) (mA f))/\PySem.Within mA (fs.map (·.1))/\fs.length<=1000/\H dx=some (.own a):=by
 obtain ⟨d,z,ne,ob,mA,n,r,q⟩:=(show ObjOk P w H h a (.ins C dx fs) from hok a _ e)
 exact ⟨mA,⟨ob,n,ne⟩,r,q,z,d⟩
end
structure Cls (K:Qb)(C:Addr):Prop where
 pg:Mf K C Str.empty=true
 hd:PySem.W.hasDictIn K C=true
 po:PySem.W.plainOver K C=true
 sa:Gx K (.ref C) "__setattr__"=some (some (.builtin "object.__setattr__"))
theorem Cls.get {K:Qb}{C:Addr}(c:Cls K C)(f:Str):Mf K C f=true:=c.pg
structure Meth (K:Qb)(C:Addr)(m:Str)(f:Addr):Prop where
 at_:Gx K (.ref C) m=some (some (.ref f))
 fn:PySem.W.isFn K (.ref f)=true
 kp:Gk K (.ref f)=true
section
variable {X:Cx}{pins:List (Addr×Obj)}{σ:St}{H:Hp}{s:Qg}{a C dx:Addr}{fs:List (Str×V)}{f:Str}{v:V}{A:QK}{E:Qe->Qg->Prop}
theorem ZmG {prog:Qm}{w:QC}{env:Env}{e:Expr}{f:Str}{pos:Pos}{s:Qg}{Q:Qe->Qg->Prop}(hb:PV e f env (eval e env)=eval e env)
 (h:Qr (QA prog w) A (eval e env) (fun o s₁=>Qr (QA prog w) A (getAttr o f true) Q E s₁) E s):Qr (QA prog w) A (eval (.Attribute e f pos) env) Q E s :=
 Attribute_any_ h (by rw [arm_eval_Attribute,hb])
end
section
variable {X:Cx}{o e value:Expr}{f:Str}{pos pos' tpos:Pos}{ta tv:TE}
end
section
variable {X:Cx}{pins:List (Addr×Obj)}{σ:St}{H:Hp}{s:Qg}{A:QK}{E:Qe->Qg->Prop}{Q:Qe->Qg->Prop}{c:Qe}{b:Bool}
inductive Ue (K:Qb)(H:Hp):V->Qe->Prop where
 | non:Ue K H .non (.type "NoneType")
 | bl (x:Bool):Ue K H (.bl x) (.type "bool")
 | int (i:Int):Ue K H (.int i) (.type "int")
 | str (x:Str):Ue K H (.str x) (.type "str")
 | flt (x:UInt64):Ue K H (.flt x) (.type "float")
 | lst {a:Addr} {xs:List V} (e:H a=some (.lst xs)):Ue K H (.ref a) (.type "list")
 | frz {a:Addr} {o:Obj} {xs:List V} (e:H a=some (.frz o (.lst xs))):Ue K H (.ref a) (.type "list")
 | tup {a:Addr} {xs:List V} (e:H a=some (.tup xs)):Ue K H (.ref a) (.type "tuple")
 | dK {a:Addr} {kvs:List (Ys×V)} (e:H a=some (.dK kvs)):Ue K H (.ref a) (.type "dict")
 | dT {a:Addr} {kvs:List (List Ys×V)} (e:H a=some (.dT kvs)):Ue K H (.ref a) (.type "dict")
 | ins {a C dx:Addr} {fs:List (Str×V)} (e:H a=some (.ins C dx fs)) (cl:Cls K C) (ha:Gx K (.ref C) "__class__"=some (some (.builtin "object.__class__")))
     (hn:PySem.W.specialIn K (.builtin "object.__class__") "__get__"=some (some (.builtin "getset_descriptor.__get__"))) (htk:PySem.W.takesIn K (.builtin "object.__class__")=some true)
     (hm:PySem.W.mroIn K C (.type "object")=some true):Ue K H (.ref a) (.ref C)
theorem Zik {x:V}{u t:Qe}(I:Inv X pins σ H s)(rx:RelV x u)(ty:Ue X.K H x t)(e:Gy X.K t c=some b)(h:∀ tk,Q (.bool b) { s with toks:=tk }) :
 Qr (QA X.prog X.w) A (call (.builtin "isinstance") [u,c]) Q E s:=by
 cases ty with
 | non=>cases (show u=Gb from rx);exact Gm NN I.kIn GN e (fun z=>nomatch z) h
 | bl y=>cases (show u=Rg y from rx);exact Gm NO I.kIn GN e (fun z=>nomatch z) h
 | int i=>obtain ⟨t,q⟩:=(show ∃ t,u=Sg i t from rx);cases q;exact Gm Mg I.kIn GN e (fun z=>nomatch z) h
 | str y=>obtain ⟨t,q⟩:=(show ∃ t,u=Tl y t from rx);cases q;exact Gm Mh I.kIn GN e (fun z=>nomatch z) h
 | flt y=>obtain ⟨t,q⟩:=(show ∃ t,u=OK y t from rx);cases q;exact Gm Nw I.kIn GN e (fun z=>nomatch z) h
 | @lst a xs ea =>
  cases (show u=Qz a from rx)
  obtain ⟨_,_,n,_,h1⟩:=(show ObjOk X.prog X.w H s.heap a (.lst xs) from I.hok a _ ea)
  exact Gm Tu I.kIn ⟨_,h1,rfl⟩ e (fun z=>nomatch z) h
 | @frz a ob xs ea =>
  cases (show u=Qz a from rx)
  obtain ⟨_,_,_,n,_,h1⟩:=(show ObjOk X.prog X.w H s.heap a (.frz ob (.lst xs)) from I.hok a _ ea)
  exact Gm Tu I.kIn ⟨_,h1,rfl⟩ e (fun z=>nomatch z) h
 | @tup a xs ea =>
  cases (show u=Qz a from rx)
  obtain ⟨_,_,_,p⟩:=(show ObjOk X.prog X.w H s.heap a (.tup xs) from I.hok a _ ea)
  obtain ⟨o,h1,h2,_⟩:=p
  exact Gm Rk I.kIn ⟨o,h1,h2⟩ e (fun z=>nomatch z) h
 | @dK a kvs ea =>
  cases (show u=Qz a from rx)
  obtain ⟨_,_,vs,_,p⟩:=(show ObjOk X.prog X.w H s.heap a (.dK kvs) from I.hok a _ ea)
  obtain ⟨o,es,ep,h1,h2,_⟩:=p
  exact Gm Tv I.kIn ⟨o,h1,h2.1⟩ e (fun z=>nomatch z) h
 | @dT a kvs ea =>
  cases (show u=Qz a from rx)
  obtain ⟨_,_,xs,_,o,es,ep,h1,h2,_⟩:=(show ObjOk X.prog X.w H s.heap a (.dT kvs) from I.hok a _ ea)
  exact Gm Tv I.kIn ⟨o,h1,h2.1⟩ e (fun z=>nomatch z) h
 | @ins a C dx fs ea cl ha hn htk hm =>
  cases (show u=Qz a from rx)
  obtain ⟨mA,O,_⟩:=ZfX I.hok ea
  obtain ⟨od,J,_⟩:=O.look
  exact Gm (Mi (cl.get _) cl.hd ha hn htk hm) I.kIn J e (fun z=>nomatch z) h
end
structure Room (k:Nat)(A:QK):Prop where
 hd:A.handled=none
 dp:A.depth+3 * k+5 < recursionLimit
 un:A.units+16 * k+200 < cLine
 gd:A.guards=some []
theorem Room.mono {j k:Nat}{A:QK}(r:Room k A)(h:j<=k):Room j A:=⟨r.hd,by have:=r.dp;omega,by have:=r.un;omega,r.gd⟩
theorem Room.deeper {k:Nat}{A:QK}(r:Room (k+1) A)(env:Env):Room k (A.deeper env) :=
 ⟨r.hd,by have:=r.dp;show A.depth+1+3 * k+5 < _;omega,by have:=r.un;show A.units+3+16 * k+200 < _;omega,r.gd⟩
theorem Zhj {A:QK}{C:Addr}{us:List Qe}{kw:List (Str×Qe)}:(A.under (.builtin "type.__call__" ⟨.ref C::us,kw⟩)).depth=A.depth+1:=by
 first | rfl | simp [Og,Code.weight,Code.isCreation,Code.isGuard,Code.isCaller,Code.frames,NP,guardIds]
theorem ZgW {A:QK}{C:Addr}{us:List Qe}{kw:List (Str×Qe)}:(A.under (.builtin "type.__call__" ⟨.ref C::us,kw⟩)).units=A.units+1:=by
 first | rfl | simp [Og,Code.cUnits,Code.frames,NP]
theorem Room.make {k:Nat}{A:QK}(r:Room (k+1) A)(C:Addr)(us:List Qe)(kw:List (Str×Qe)):Room k (A.under (.builtin "type.__call__" ⟨.ref C::us,kw⟩)) :=
 ⟨r.hd,by have:=r.dp;rw [Zhj];omega,by have:=r.un;rw [ZgW];omega,by first | exact r.gd | simpa [Og,Code.isGuard,guardIds] using r.gd⟩
theorem Room.depth {k:Nat}{A:QK}(r:Room k A):A.depth < recursionLimit:=by have:=r.dp;omega
theorem Room.units {k:Nat}{A:QK}(r:Room k A):A.units+64 < cLine:=by have:=r.un;omega
def Xf:TA:=fun _ H Q=>Q [] H
def Xa (ta:TE)(tr:TA):TA:=fun σ H Q=>ta σ H fun x H1=>tr σ H1 fun xs H2=>Q (x::xs) H2
section
variable {X:Cx}{e:Expr}{es:List Expr}{te:TE}{t:TA}{pos:Pos}
theorem Za:PA X [] Xf:=fun _ _ _ _ H Q I h=>Jx ⟨[],H,I,.nil,h⟩
theorem YC (ha:PE X e te)(hr:PA X es t)(hs:QH (e::es) X.env=(false,eval e X.env)::QH es X.env:=by rfl):PA X (e::es) (Xa te t):=by
 intro pos pins s σ H Q I h
 rw [hs]
 show Qr _ _ (ML ((false,eval e X.env)::Jp pos (QH es X.env))) _ _ s
 refine Gz (Zt (ha pins s σ H _ I h) fun u s1 ⟨x,H1,I1,r1,q1⟩=>?_)
 exact Zt (hr pos pins s1 σ H1 _ I1 q1) fun us s2 ⟨xs,H2,I2,r2,q2⟩=>⟨x::xs,H2,I2,.cons r1 r2,q2⟩
def tTup (t:TA):TE:=fun σ H Q=>t σ H fun xs H1=>xs.length<=Qi/\∀ p,H1 p=none->Q (.ref p) (upd H1 p (.tup xs))
def ZcL (t:TA):TE:=fun σ H Q=>t σ H fun xs H1=>xs.length<=Qi/\∀ p,H1 p=none->Q (.ref p) (upd H1 p (.lst xs))
theorem ZV {x1}(h:PA X es t):PE X (.Tuple es x1 pos) (tTup t):=by
 intro pins s σ H Q I hq
 refine wpAny_Tuple_spliced (Zt (h pos pins s σ H _ I hq) fun us s1 ⟨xs,H1,I1,r,z,q⟩=>⟨by rw [<- r.length];exact z,?_⟩)
 have hf:H1 s1.heap.objs.size=none:=I1.hok.fresh (Qh _)
 refine ⟨.ref s1.heap.objs.size,upd H1 s1.heap.objs.size (.tup xs),I1.laid (t':=s1.toks) (fun b u e=>Qf _ e) (Qh _) ?_,rfl,q _ hf⟩
 exact ⟨z,us,r,⟨_,Qn _ rfl,rfl,_,rfl⟩⟩
theorem ZH (h:PA X es t):PE X (.List es pos) (ZcL t):=by
 intro pins s σ H Q I hq
 refine wpAny_List_spliced (Zt (h pos pins s σ H _ I hq) fun us s1 ⟨xs,H1,I1,r,z,q⟩=>⟨by rw [<- r.length];exact z,?_⟩)
 have hf:H1 s1.heap.objs.size=none:=I1.hok.fresh (Qh _)
 refine ⟨.ref s1.heap.objs.size,upd H1 s1.heap.objs.size (.lst xs),I1.laid (t':=s1.toks) (fun b u e=>Qf _ e) (Qh _) ?_,rfl,q _ hf⟩
 exact ⟨z,us,0,r,Qn _ rfl⟩
end
abbrev Sp:=List V->Hp->VK->XK->Prop
abbrev Vl:=List Env->Hp->Qg->XK->Qe->Qg->Prop
structure Env0 (P:Qm)(w:QC)(K:Qb)(mg:Str->Option Qe)(base:Heap)(A:QK)(outer:List Env)(s:Qg)(H:Hp):Prop where
 frames:A.frames=some outer
 mod:Mod K mg base
 bs:∀ b o,base.get? b=some o->s.heap.get? b=some o/\H b=none
 bsz:base.objs.size<=s.heap.objs.size
 funs:s.heap.FunFrames base outer
 frf:∀ b∈XY outer,H b=none
 hok:HOk P w H s.heap
 bare:SQ s.gens
def CE (outer:List Env)(P:Qm)(w:QC)(H:Hp)(s:Qg)(Q:VK)(u:Qe)(s':Qg):Prop :=
 ∃ v H',s'.os=s.os/\SQ s'.gens/\Un (XY outer) [] H H' s.heap s'.heap/\HOk P w H' s'.heap/\RelV v u/\Q v H'
def CR (CX:Vl)(outer:List Env)(P:Qm)(w:QC)(H:Hp)(s:Qg)(Q:VK)(E:XK)(r:Oh)(s':Qg):Prop :=
 match r with
 | .ok (.ret u)=>CE outer P w H s Q u s'
 | .ok _=>False
 | .error e=>CX outer H s E e s'
structure FnOk (P:Qm)(w:QC)(K:Qb)(mg:Str->Option Qe)(base:Heap)(CX:Vl)(k:Nat)(f:Addr)(fd:Qq)(ps:List Str)(sp:Sp):Prop where
 len:∀ vs H Q E,sp vs H Q E->vs.length=ps.length
 run:∀ (A:QK) (outer:List Env) (s:Qg) (H:Hp) (args:Args) (us:List Qe) (vs:List V) (Q:VK) (E:XK),Room k A->Env0 P w K mg base A outer s H->Oi s fd args (ps.zip us)->Vals vs us->sp vs H Q E ->
  Pf (QA P w) A (.call (.ref f) args) (CR CX outer P w H s Q E) s
theorem FnOk.mono {P:Qm}{w:QC}{K:Qb}{mg:Str->Option Qe}{base:Heap}{CX:Vl}{j k:Nat}{f:Addr}{fd:Qq}{ps:List Str}{sp:Sp}(F:FnOk P w K mg base CX j f fd ps sp)(h:j<=k) :
 FnOk P w K mg base CX k f fd ps sp:=⟨F.len,fun A outer s H args us vs Q E hr=>F.run A outer s H args us vs Q E (hr.mono h)⟩
theorem FnOk.imp {P:Qm}{w:QC}{K:Qb}{mg:Str->Option Qe}{base:Heap}{CX:Vl}{k:Nat}{f:Addr}{fd:Qq}{ps:List Str}{sp sp':Sp}(F:FnOk P w K mg base CX k f fd ps sp)
 (h:∀ vs H Q E,sp' vs H Q E->sp vs H Q E):FnOk P w K mg base CX k f fd ps sp' :=
 ⟨fun vs H Q E q=>F.len vs H Q E (h _ _ _ _ q),fun A outer s H args us vs Q E hr he hb hv hs=>F.run A outer s H args us vs Q E hr he hb hv (h _ _ _ _ hs)⟩
theorem Env0.make {P:Qm}{w:QC}{K:Qb}{mg:Str->Option Qe}{base:Heap}{A:QK}{outer:List Env}{s:Qg}{H:Hp}(e:Env0 P w K mg base A outer s H)(C:Addr)(us:List Qe)(kw:List (Str×Qe)) :
 Env0 P w K mg base (A.under (.builtin "type.__call__" ⟨.ref C::us,kw⟩)) outer s H:=⟨by first | exact e.frames | (simpa [Og,Code.envs,NP,pushEnvs] using e.frames),e.mod,e.bs,e.bsz,e.funs,e.frf,e.hok,e.bare⟩
section
variable {X:Cx}{pins:List (Addr×Obj)}{σ:St}{H:Hp}{s s':Qg}
theorem Inv.env0 (I:Inv X pins σ H s):Env0 X.prog X.w X.K X.mg X.base X.A X.stack s H :=
 ⟨I.ok.frames,I.ok.mod,I.bs,Qw I.ok.bsz I.sz,I.stack,I.stkFree,I.hok,I.bare⟩
theorem Inv.after {Q:VK}{u:Qe}(I:Inv X pins σ H s)(h:CE X.stack X.prog X.w H s Q u s'):EP X pins σ Q u s':=by
 obtain ⟨v,H',os,bare,un,hok,r,q⟩:=h
 obtain ⟨hh,g,d,t,os'⟩:=s'
 obtain rfl:os'=s.os:=os
 exact ⟨v,H',I.call (h':=hh) (g':=g) (d':=d) (t':=t) (ch:=[]) un hok bare (fun b z=>absurd z (by simp)),r,q⟩
end
def ZdS (sp:Sp)(dvs:List V)(E:XK)(t:TA):TE:=fun σ H Q=>t σ H fun vs H1=>sp (vs++dvs) H1 Q E
def Binds (K:Qb)(fd:Qq)(ps:List Str)(ds:List Qe):Prop :=
 ∀ (s:Qg) (us:List Qe),K.In s.heap->(us++ds).length=ps.length->Oi s fd ⟨us,[]⟩ (ps.zip (us++ds))
theorem Binds.all {K:Qb}{fd:Qq}{ps:List Str}(h:∀ us:List Qe,us.length=ps.length->bindArgs fd ⟨us,[]⟩=pure (ps.zip us)):Binds K fd ps []:=fun s us _ hl=>by
 rw [append_nil] at hl ⊢
 exact .of_eq (h us hl)
def ZeT (CX:Vl)(X:Cx)(E:XK):Prop:=∀(pins:List (Addr×Obj))(σ:St)(H:Hp)(s:Qg)(e:Qe)(s':Qg),Inv X pins σ H s->CX X.stack H s E e s'->X.xe e s'
section
variable {X:Cx}{CX:Vl}{k:Nat}{f C:Addr}{fd:Qq}{ps:List Str}{sp:Sp}{dvs:List V}{ds:List Qe}{E:XK}{x m:Str}{p pos apos:Pos}{e o:Expr}{es:List Expr}{ta:TE}{t:TA}
theorem Zob {pins:List (Addr×Obj)}{σ:St}{H:Hp}{s:Qg}{Q:VK}{us:List Qe}{vs:List V}(F:FnOk X.prog X.w X.K X.mg X.base CX k f fd ps sp)(hr:Room k X.A)(hb:Binds X.K fd ps ds)(hd:Vals dvs ds)(hx:ZeT CX X E)
 (I:Inv X pins σ H s) (r:Vals vs us) (h:sp (vs++dvs) H Q E):Qr (QA X.prog X.w) X.A (call (.ref f) us) (EP X pins σ Q) X.xe s:=by
 have r2:Vals (vs++dvs) (us++ds):=r.append hd
 have hl:(us++ds).length=ps.length:=by rw [<- r2.length];exact F.len _ _ _ _ h
 refine Rl (JW (F.run X.A X.stack s H ⟨us,[]⟩ (us++ds) (vs++dvs) Q E hr I.env0 (hb s us I.kIn hl) r2 h) fun r s' hq=>?_)
 cases r with
 | error e=>exact hx pins σ H s e s' I hq
 | ok fl =>
  cases fl with
  | ret u=>exact I.after hq
  | next=>exact Gh hq
  | brk=>exact Gh hq
  | cont=>exact Gh hq
theorem ZlM (F:FnOk X.prog X.w X.K X.mg X.base CX k f fd ps sp)(hr:Room k X.A)(hg:Gl X x)(hm:X.mg x=some (.ref f))(hk:Gk X.K (.ref f)=true)(hb:Binds X.K fd ps ds)(hd:Vals dvs ds)(hx:ZeT CX X E)
 (ha:PA X (e::es) t) (hdb:(x == ("__debug__":Str))=false:=by decide) (he:QH (e::es) X.env=(false,eval e X.env)::QH es X.env:=by rfl) (hpl:(Jp pos (QH es X.env)).any (·.1)=false:=by rfl) :
 PE X (.Call (.Name x p) (e::es) [] pos) (ZdS sp dvs E t):=by
 intro pins s σ H Q I h
 refine Gc (Vc I hg hm ?_ hdb)
 refine JX (h₀:=X.base) I.ok.mod.kin hk (Zt (ha pos pins s σ H _ I h) fun us s1 ⟨vs,H1,I1,r,q⟩=>⟨I1.kIn,?_⟩) he hpl
 exact Zob F hr hb hd hx I1 r q
end
def PK (X:Cx)(kws:List SR)(t:TA):Prop :=
 ∀ (pos:Pos) (pins:List (Addr×Obj)) (s:Qg) (σ:St) (H:Hp) (Q:List V->Hp->Prop),Inv X pins σ H s->t σ H Q->Qr (QA X.prog X.w) X.A (evalAll ((OO pos (Sy kws X.env)).map (·.2))) (AP X pins σ Q) X.xe s
section
variable {X:Cx}{CX:Vl}{k:Nat}{f C:Addr}{fd:Qq}{ps ks:List Str}{sp:Sp}{E:XK}{x m:Str}{p pos apos kpos:Pos}{e o:Expr}{es:List Expr}{kws:List SR}{te ta:TE}{t tk:TA}{nm:Option Str}
theorem Znj:PK X [] Xf:=fun _ _ _ _ H Q I h=>wpAny_evalAll_nil ⟨[],H,I,.nil,h⟩
theorem Znf (ha:PE X e te)(hr:PK X kws t):PK X (⟨nm,e,kpos⟩::kws) (Xa te t):=by
 intro pos pins s σ H Q I h
 show Qr _ _ (evalAll ((do let v <- eval e X.env;MM pos;pure v)::(OO pos (Sy kws X.env)).map (·.2))) _ _ s
 refine wpAny_evalAll_cons (Qd (Zt (ha pins s σ H _ I h) fun u s1 ⟨x,H1,I1,r1,q1⟩=>Qd (GC (Qk ?_))))
 exact Zt (hr pos pins s1 σ H1 _ I1 q1) fun us s2 ⟨xs,H2,I2,r2,q2⟩=>⟨x::xs,H2,I2,.cons r1 r2,q2⟩
variable {g:List Qe->List Qe->List Qe}{gV:List V->List V->List V}
end
structure ZB (N P:List Str)(sc:Scope):Prop where
 kind:sc.kind=.function
 co:sc.isCoroutine=false
 gen:sc.isGenerator=false
 nd:N.Nodup
 pre:N.take P.length=P
 par:∀ x∈P,sc.names.lookup x=some .local\/sc.names.lookup x=some .cell
 nofree:∀ y∈sc.names,y.2≠.free
theorem Zdc {kindOf:Str->Option Tw}{x:Str}:∀{binds:List (Str×Qe)}{m:Str->Option Qe},(∀ v,(x,v) ∉ binds)->bindL kindOf binds m x=m x
 | [],_,_=>rfl
 | (n,v)::r,m,h=>by
  unfold bindL
  rw [Zdc fun w hw=>h w (mem_cons_of_mem _ hw)]
  split
  ·have:x≠n:=by rintro rfl;exact h v mem_cons_self
   simp [this]
  ·rfl
theorem ZdA {kindOf:Str->Option Tw}{x:Str}:∀{binds:List (Str×Qe)}{m:Str->Option Qe},(∀ v,(x,v) ∉ binds)->bindC kindOf binds m x=m x
 | [],_,_=>rfl
 | (n,v)::r,m,h=>by
  unfold bindC
  rw [ZdA fun w hw=>h w (mem_cons_of_mem _ hw)]
  split
  ·rfl
  ·have:x≠n:=by rintro rfl;exact h v mem_cons_self
   simp [this]
theorem ZdF {kindOf:Str->Option Tw}{x:Str}{v:Qe}:∀{P:List Str}{vs:List Qe}{i:Nat}{m:Str->Option Qe},P.Nodup->P[i]?=some x->vs[i]?=some v->kindOf x=some .local ->
 bindL kindOf (P.zip vs) m x=some v
 | [],_,_,_,_,h,_,_=>by simp at h
 | _::_,[],_,_,_,_,h,_=>by simp at h
 | p::P,w::vs,0,m,nd,h1,h2,hk=>by
  simp at h1 h2;subst h1;subst h2
  show bindL kindOf ((p,w)::P.zip vs) m p=_
  unfold bindL
  rw [Zdc fun v hv=>(SI.mp nd).1 (Oz hv).1,if_pos hk]
  simp
 | p::P,w::vs,i+1,m,nd,h1,h2,hk=>by
  show bindL kindOf ((p,w)::P.zip vs) m x=_
  unfold bindL
  exact ZdF (i:=i) (SI.mp nd).2 (by simpa using h1) (by simpa using h2) hk
theorem ZdB {kindOf:Str->Option Tw}{x:Str}{v:Qe}:∀{P:List Str}{vs:List Qe}{i:Nat}{m:Str->Option Qe},P.Nodup->P[i]?=some x->vs[i]?=some v->kindOf x≠some .local ->
 bindC kindOf (P.zip vs) m x=some v
 | [],_,_,_,_,h,_,_=>by simp at h
 | _::_,[],_,_,_,_,h,_=>by simp at h
 | p::P,w::vs,0,m,nd,h1,h2,hk=>by
  simp at h1 h2;subst h1;subst h2
  show bindC kindOf ((p,w)::P.zip vs) m p=_
  unfold bindC
  rw [ZdA fun v hv=>(SI.mp nd).1 (Oz hv).1,if_neg hk]
  simp
 | p::P,w::vs,i+1,m,nd,h1,h2,hk=>by
  show bindC kindOf ((p,w)::P.zip vs) m x=_
  unfold bindC
  exact ZdB (i:=i) (SI.mp nd).2 (by simpa using h1) (by simpa using h2) hk
def start (N:List Str)(vs:List V):St:=vs.map some++QI (N.length - vs.length) none
def Uy (CX:Vl)(P:Qm)(w:QC)(K:Qb)(mg:Str->Option Qe)(base:Heap)(N:List Str)(qual:Str)(scope:Scope)(f:Addr)(cd:Qe)(A:QK)(outer:List Env)(s:Qg)(H:Hp)(E:XK):Cx where
 prog:=P
 w:=w
 K:=K
 mg:=mg
 base:=base
 A:=A.deeper (Tg qual scope s.heap.objs.size f cd)
 N:=N
 s₀:=s
 H₀:=H
 env:=Tg qual scope s.heap.objs.size f cd
 outer:=outer
 stack:=Tg qual scope s.heap.objs.size f cd::outer
 ex:=[]
 calm:=true
 fn:=fun _=>true
 pn:=[]
 xe:=fun e s'=>Qr (QA P w) (A.deeper (Tg qual scope s.heap.objs.size f cd)) (leaving (Tg qual scope s.heap.objs.size f cd) e) (fun _ s''=>CX outer H s E e s'') (fun e' s''=>CX outer H s E e' s'') s'
theorem Zek {sc:Scope}{n:Nat}{x:Str}(h:sc.names.lookup x=some .cell):∃ c,(Nb n sc.names []).lookup x=some c:=by
 have q:=Oj sc.names n [] (.inl h)
 exact RH.mp q
theorem Zjg {CX:Vl}{P:Qm}{w:QC}{K:Qb}{mg:Str->Option Qe}{base:Heap}{N ps:List Str}{qual:Str}{scope:Scope}{f:Addr}{cd:Qe}{A:QK}{outer:List Env}{s s1:Qg}{H:Hp}{E:XK}{us:List Qe}{vs:List V}
 (S:ZB N ps scope) (hd:A.handled=none) (e0:Env0 P w K mg base A outer s H) (hl:vs.length=ps.length) (r:Vals vs us)
 (x:InCallC s s.heap.objs.size (bindL (Tg qual scope s.heap.objs.size f cd).kindOf (ps.zip us) fun _=>none) (Nb (s.heap.objs.size+1) scope.names []) (bindC (Tg qual scope s.heap.objs.size f cd).kindOf (ps.zip us) fun _=>none) s1) :
 Inv (Uy CX P w K mg base N qual scope f cd A outer s H E) [] (start N vs) H s1:=by
 have hpl:ps.length<=N.length:=by have:=congrArg JT S.pre;rw [length_take] at this;omega
 obtain ⟨h1,tk,rfl,hk⟩:=x.done
 have noA:∀ b:Addr,b ∉ (Uy CX P w K mg base N qual scope f cd A outer s H E).ex:=fun b z=>absurd (show b∈([]:List Addr) from z) (by simp)
 refine ⟨⟨e0.mod,S.kind,rfl,rfl,Qh _,fun y z c h1 h2=>?_,fun y hy=>?_,fun y c _ h=>?_,fun _=>hd,OP e0.frames,.inr ⟨rfl,rfl⟩,fun b z=>absurd z (noA b),e0.bs,e0.bsz,fun b _ _=>noA b,fun b z=>absurd z (noA b),e0.funs,e0.frf⟩,
  rfl,e0.bare,Un.kept hk,⟨_,x.toInCall.ns,fun i y v h1 h2 h3=>?_⟩,fun y c h=>⟨_,x.cell y c h⟩,e0.hok.fresh (Qh _),fun y c h=>?_,fun p hp=>absurd (show p∈([]:List (Addr×Obj)) from hp) (by simp),e0.hok.kept hk,?_⟩
 ·exact name_of_addr x.apart (GT h1) (GT h2)
 ·have hy:scope.names.lookup y=some .cell\/scope.names.lookup y=some .free:=hy
  rcases hy with hy | hy
  ·exact Zek hy
  ·exact absurd rfl (S.nofree _ (GT hy))
 ·exact Tq (x.above y c (GT h))
 ·have hi:i < vs.length:=by
   unfold start at h2
   by_cases hi:i < vs.length
   ·exact hi
   ·rw [getElem?_append_right (by simpa using hi)] at h2
    rw [List.getElem?_replicate] at h2
    split at h2<;>cases h2
  have ha:vs[i]?=some v:=by
   unfold start at h2
   rw [getElem?_append_left (by simpa using hi),getElem?_map] at h2
   cases e:vs[i]? with
   | none=>rw [e] at h2;cases h2
   | some a=>rw [e] at h2;cases h2;rfl
  obtain ⟨u,hu,rv⟩:=r.get ha
  have hp:ps[i]?=some y:=by
   rw [<- S.pre,List.getElem?_take_of_lt (by omega)];exact h1
  have ndP:ps.Nodup:=by rw [<- S.pre];exact S.nd.sublist (Ph _ _)
  refine ⟨u,rv,?_⟩
  rcases S.par y (mem_of_getElem? hp) with k | k
  ·exact .inl ⟨k,ZdF ndP hp hu k⟩
  ·obtain ⟨c,e⟩:=Zek (n:=s.heap.objs.size+1) k
   refine .inr ⟨.inl k,c,e,?_⟩
   have q:=x.cell y c e
   rw [ZdB ndP hp hu (by show scope.names.lookup y≠_;rw [k];decide)] at q
   exact q
 ·exact e0.hok.fresh (Tq (x.above y c (GT h)))
 ·unfold start
  show _=N.length
  rw [length_append,length_map,Sa]
  omega
theorem Zlp {CX:Vl}{P:Qm}{w:QC}{K:Qb}{mg:Str->Option Qe}{base:Heap}{k:Nat}{f:Addr}{name qual:Str}{params:Arguments}{body:List Stmt}{scope:Scope}{dV kV doc pm cdv ct oc:Qe}{an od:Option Addr}
 {osl:Array (Option Qe)} {N ps:List Str} {sp:Sp} (lk:K.lookup f=some ⟨oc,od,.func (SU name qual params body scope dV kV doc pm an cdv ct),osl⟩) (hcd:PySem.W.codeIn K cdv qual=true) (S:ZB N ps scope)
 (len:∀ vs H Q E,sp vs H Q E->vs.length=ps.length)
 (hbody:∀ (A:QK) (outer:List Env) (s:Qg) (H:Hp) (vs:List V) (Q:VK) (E:XK),Room k (A.deeper (Tg qual scope s.heap.objs.size f cdv))->sp vs H Q E ->
  ∃ t,PSs (Uy CX P w K mg base N qual scope f cdv A outer s H E) body t/\t { nx:=fun _ H'=>Q .non H',rt:=Q } (start N vs) H) :
 FnOk P w K mg base CX (k+1) f (SU name qual params body scope dV kV doc pm an cdv ct) ps sp:=by
 refine ⟨len,fun A outer s H args us vs Q E hr e0 hb r hsp=>?_⟩
 have hl:=len _ _ _ _ hsp
 have KX:K.In s.heap:=e0.mod.kin.keeps fun b o e=>(e0.bs b o e).1
 have lim:s.heap.NoLimit:=e0.mod.nolimit.keeps fun b o e=>(e0.bs b o e).1
 have hkind:∀ y∈ps.zip us,scope.names.lookup y.1=some .local\/(scope.names.lookup y.1=some .cell/\((Nb (s.heap.objs.size+1) scope.names []).lookup y.1).isSome=true):=fun ⟨n,v⟩ hy=>by
  rcases S.par n (Oz hy).1 with q | q
  ·exact .inl q
  ·exact .inr ⟨q,Oj _ _ _ (.inl q)⟩
 refine OF hr.depth (KX _ _ lk) rfl S.co S.gen rfl (Nx KX hcd) (hb _ _ _ _ ?_)
 refine wpAny_newFunctionEnv_cells S.kind hkind fun env he s1 x=>?_
 subst he
 refine ⟨lim.keeps x.toInCall.keep,codeAny_func ?_⟩
 obtain ⟨t,ht,hq⟩:=hbody A outer s H vs Q E (hr.deeper _) hsp
 have I:Inv (Uy CX P w K mg base N qual scope f cdv A outer s H E) [] (start N vs) H s1:=Zjg S hr.hd e0 hl r x
 refine QY (ht [] s1 (start N vs) H _ I hq) (fun fl s' hs=>?_) fun e s' hs=>hs
 have fin:∀ {σ':St} {H':Hp} {v:V} {u:Qe},Inv (Uy CX P w K mg base N qual scope f cdv A outer s H E) [] σ' H' s'->RelV v u->Q v H'->CE outer P w H s Q u s' :=
  fun {σ' H' v u} J rv q=>⟨v,H',J.os,J.bare,J.base,J.hok,rv,q⟩
 cases fl with
 | ret u =>
  obtain ⟨v,σ',H',J,rv,q⟩:=hs
  exact fin J rv q
 | next =>
  obtain ⟨σ',H',J,q⟩:=hs
  exact fin (v:=V.non) (u:=Gb) J rfl q
 | brk =>
  obtain ⟨_,_,_,q⟩:=hs
  exact Gh q
 | cont =>
  obtain ⟨_,_,_,q⟩:=hs
  exact Gh q
section
variable {X:Cx}{x:Str}{p pos:Pos}{e:Expr}{es:List Expr}{t:TA}{id T:String}{r:List V->Hp->VK->Prop}
def tCB (r:List V->Hp->VK->Prop)(t:TA):TE:=fun σ H Q=>t σ H fun vs H1=>r vs H1 Q
theorem Zm (hc:Xe X (.builtin id) r)(hg:Gl X x)(hm:X.mg x=none)(hv:Pu x=some (.builtin id))(ha:PA X (e::es) t)(hn:x≠"__name__":=by decide)(hdb:(x == ("__debug__":Str))=false:=by decide)
 (he:QH (e::es) X.env=(false,eval e X.env)::QH es X.env:=by rfl) (hpl:(Jp pos (QH es X.env)).any (·.1)=false:=by rfl):PE X (.Call (.Name x p) (e::es) [] pos) (tCB r t):=by
 intro pins s σ H Q I h
 refine Gc (Ug I hg hm hv ?_ hn hdb)
 exact Mj (Zt (ha pos pins s σ H _ I h) fun us s1 ⟨vs,H1,I1,r1,q1⟩=>hc pins s1 σ H1 vs us Q I1 r1 q1) he hpl
theorem Yw (hc:Xe X (.type T) r)(hg:Gl X x)(hm:X.mg x=none)(hv:Pu x=some (.type T))(ha:PA X (e::es) t)(hn:x≠"__name__":=by decide)(hdb:(x == ("__debug__":Str))=false:=by decide)
 (he:QH (e::es) X.env=(false,eval e X.env)::QH es X.env:=by rfl) (hpl:(Jp pos (QH es X.env)).any (·.1)=false:=by rfl):PE X (.Call (.Name x p) (e::es) [] pos) (tCB r t):=by
 intro pins s σ H Q I h
 refine Gc (Ug I hg hm hv ?_ hn hdb)
 exact Gw (Zt (ha pos pins s σ H _ I h) fun us s1 ⟨vs,H1,I1,r1,q1⟩=>hc pins s1 σ H1 vs us Q I1 r1 q1) he hpl
end
end L2
namespace HT
open PySem PyProof.Rows
section
open PySem.SeqAt
open PySem.AutoSeq1 (wpAny_loadPart')
open PySem.MeetsSeq PySem.MeetsSeq2 PySem.MeetsSeq3
end
section
variable {prog:Qm}{w:QC}{A:QK}{E:Qe->Qg->Prop}{s:Qg}
theorem cat_tup {t b:Addr}{vs ws:List Qe}{Q:Qe->Qg->Prop}(ht:IsTup s.heap t vs.toArray)(hb:IsTup s.heap b ws.toArray)(hv:vs≠[])
 (h1:ws=[]->Q (.ref t) s) (h2:ws≠[]->Q (.ref s.heap.objs.size) { s with heap:=s.heap.push { cls:=.type "tuple",data:=.seq (vs++ws).toArray } })
 (hsz:vs.length+ws.length<=Qi):Qr (QA prog w) A (Pb .Add (.ref t) (.ref b)) Q E s:=by
 obtain ⟨⟨cls,dd,data,sl⟩,ho,hc,n,hd⟩:=id ht
 obtain ⟨⟨cls2,dd2,data2,sl2⟩,ho2,hc2,n2,hd2⟩:=id hb
 simp only at hc hd hc2 hd2
 subst hc hd hc2 hd2
 have e:vs.toArray++ws.toArray=(vs++ws).toArray:=by simp
 by_cases hw:ws=[]
 ·exact concat_meets ⟨_,ho,rfl⟩ ⟨_,ho2,rfl⟩ Mk seq_tuple_add Ol RS (RI _ _)
   (tuple_addW1 t b vs.toArray ws.toArray n n2 dd dd2 sl sl2 (by simpa using hv) (by simp [hw])) ⟨ho,ho2,h1 hw⟩
 ·refine concat_meets ⟨_,ho,rfl⟩ ⟨_,ho2,rfl⟩ Mk seq_tuple_add Ol RS (RI _ _)
   (tuple_addW2 t b vs.toArray ws.toArray n n2 dd dd2 sl sl2 (by simpa using hv) (by simpa using hw) (by rw [size_toArray,size_toArray];exact hsz)) ⟨ho,ho2,?_⟩
  rw [e]
  exact h2 hw
def sIx (n d:Nat):Option Int->Nat
 | none=>d
 | some v=>if v < 0 then (v+(n:Int)).toNat else min v.toNat n
theorem sIx_none (n d:Nat):sIx n d none=d:=rfl
theorem sIx_nat (n d k:Nat):sIx n d (some (k:Int))=min k n:=by
 show (if (k:Int) < 0 then ((k:Int)+(n:Int)).toNat else min (k:Int).toNat n)=min k n
 rw [if_neg (by omega),Tx]
theorem sIx_le (n d:Nat)(hd:d<=n)(o:Option Int):sIx n d o<=n:=by
 cases o with
 | none=>exact hd
 | some v =>
  show (if v < 0 then (v+(n:Int)).toNat else min v.toNat n)<=n
  by_cases hv:v < 0
  ·rw [if_pos hv];omega
  ·rw [if_neg hv];exact Nat.min_le_right _ _
theorem ZfA (v:Int)(n d:Nat):(if v < 0 then max (v+(n:Int)) 0 else min v (n:Int))=((sIx n d (some v):Nat):Int):=by
 show (if v < 0 then max (v+(n:Int)) 0 else min v (n:Int))=(((if v < 0 then (v+(n:Int)).toNat else min v.toNat n):Nat):Int)
 by_cases hv:v < 0
 ·simp only [if_pos hv];omega
 ·simp only [if_neg hv];omega
theorem Zgp (lo hi:Option Int)(n:Nat):PL lo hi 1 (n:Int)=(((sIx n 0 lo:Nat):Int),((sIx n n hi:Nat):Int)):=by
 have h1:¬ ((1:Int) < 0):=by omega
 unfold PL
 simp only [h1,if_false]
 refine Prod.ext ?_ ?_
 ·cases lo with
  | none=>rfl
  | some v=>exact ZfA v n 0
 ·cases hi with
  | none=>rfl
  | some v=>exact ZfA v n n
theorem ZgN (i j:Nat):Jq (i:Int) (j:Int) 1=j - i:=by
 unfold Jq
 have h1:(1:Int) > 0:=by omega
 simp only [h1,if_true,Om]
 split<;>omega
theorem Zca {v:Qe}{o:Option Int}{Q:Option Int->Qg->Prop}(p:Ny v o)(h:Q o s):Qr (QA prog w) A (MB v) Q E s:=by
 cases p with
 | none=>exact slicePart_none h
 | int i t=>exact slicePart_int h
theorem ZbD {sl:Addr}{vl vu:Qe}{lo hi:Option Int}{n:Nat}{Q:Int×Int×Nat->Qg->Prop}(hs:s.heap.IsSliceOf sl vl vu .none)(pl:Ny vl lo)(pu:Ny vu hi)
 (h:Q (((sIx n 0 lo:Nat):Int),1,sIx n n hi - sIx n 0 lo) s):Qr (QA prog w) A (Rm (.ref sl) (pure (n:Int))) Q E s:=by
 obtain ⟨os,hos,hcs,hds⟩:=id hs
 unfold Rm Builtin.Slice.sliceFields
 refine Qd (Qd (QN hos hds (x:=vl) rfl (Qd (QN hos hds (x:=vu) rfl (Qd (QN hos hds (x:=.none) rfl (Qk ?_)))))))
 refine Qd (slicePart_none ?_)
 show Qr _ _ (if ((1:Int) == 0)=true then _ else _) _ _ s
 rw [if_neg (by decide)]
 refine Qd (Zca pl (Qd (Zca pu (Qd (Qk ?_)))))
 show Qr _ _ (match PL lo hi 1 (n:Int) with | (lo,hi)=>pure (lo,(1:Int),Jq lo hi 1)) _ _ s
 rw [Zgp lo hi n]
 show Qr _ _ (pure (((sIx n 0 lo:Nat):Int),(1:Int),Jq ((sIx n 0 lo:Nat):Int) ((sIx n n hi:Nat):Int) 1)) _ _ s
 rw [ZgN]
 exact Qk h
theorem ZjW (xs:Array Qe)(i k:Nat):((Gs k).filterMap fun (m:Nat)=>xs[((i:Int)+(m:Int) * 1).toNat]?).toArray=((xs.toList.drop i).take k).toArray:=by
 have e:(fun (m:Nat)=>xs[((i:Int)+(m:Int) * 1).toNat]?)=fun m=>xs[i+m]?:=by
  funext m
  have:((i:Int)+(m:Int) * 1).toNat=i+m:=by omega
  rw [this]
 rw [e]
 have:=pick_run xs i k
 rw [Th] at this
 have e2:((fun x=>xs[x]?) ∘ fun x=>i+x)=fun m=>xs[i+m]?:=rfl
 rw [e2] at this
 rw [this]
theorem getItem_tuple_cut {t sl:Addr}{items:Array Qe}{vl vu:Qe}{lo hi:Option Int}{Q:Qe->Qg->Prop}(ht:IsTup s.heap t items)(hs:s.heap.IsSliceOf sl vl vu .none)(pl:Ny vl lo)(pu:Ny vu hi)
 (hw:¬ (sIx items.size 0 lo=0/\sIx items.size items.size hi=items.size))
 (h:Q (.ref s.heap.objs.size) { s with heap:=s.heap.push { cls:=.type "tuple",data:=.seq ((items.toList.drop (sIx items.size 0 lo)).take (sIx items.size items.size hi - sIx items.size 0 lo)).toArray } })
 (hsz:items.size<=Qi):Qr (QA prog w) A (MN (.ref t) (.ref sl)) Q E s:=by
 have htake:sizeOk (.seq ((items.toList.drop (sIx items.size 0 lo)).take (sIx items.size items.size hi - sIx items.size 0 lo)).toArray):=by
  show ((items.toList.drop (sIx items.size 0 lo)).take (sIx items.size items.size hi - sIx items.size 0 lo)).toArray.size<=Qi
  rw [size_toArray,length_take,length_drop,QV]
  omega
 have hj:sIx items.size items.size hi<=items.size:=sIx_le _ _ (Qh _) hi
 obtain ⟨os,hos,hcs,hds⟩:=id hs
 have hTs:s.TypeIs (.ref sl) "slice":=⟨os,hos,hcs⟩
 unfold MN
 try with_reducible refine GI ?_
 first | refine Qd (Qk ?_) | skip
 refine Qd (wpAny_sequenceKey ht.typeIs (by decide) ?_)
 refine Qd (Go (name:=Qa "__getitem__") ht.typeIs JL
  (GW JL ht.typeIs entry_tuple_getitem ?_ (args_tuple_getitem _ _)))
 show Qr _ _ (Builtin.Tuple.tupleItemsOf (.ref t) >>= _) _ _ s
 refine Qd (tupleItemsOf_ ht ?_)
 refine Qd (wpAny_typeOf hTs ?_)
 rw [if_pos (by decide)]
 refine Qd (ZbD hs pl pu ?_)
 have hno:¬ ((((sIx items.size 0 lo:Nat):Int) == 0&&(1:Int) == 1&&(sIx items.size items.size hi - sIx items.size 0 lo) == items.size)=true):=by
  intro q
  rw [QL,QL] at q
  have q1:((sIx items.size 0 lo:Nat):Int)=0:=eq_of_beq q.1.1
  have q2:sIx items.size items.size hi - sIx items.size 0 lo=items.size:=eq_of_beq q.2
  exact hw ⟨by omega,by omega⟩
 show Qr _ _ (if (((sIx items.size 0 lo:Nat):Int) == 0&&(1:Int) == 1&&(sIx items.size items.size hi - sIx items.size 0 lo) == items.size)=true then _ else _) _ _ s
 rw [if_neg hno,ZjW]
 first
  | exact Qd (m:=JI _) (Gj (Qk ⟨_,rfl,Qk h⟩) htake)
  | exact Qd (m:=JI _) (Gj (Qd (Qk (Qk ⟨_,rfl,Qk h⟩))) htake)
  | exact Qd (Qd (m:=JI _) (Gj (Qk (Qk ⟨_,rfl,Qk h⟩)) htake))
  | exact Qd (Qd (m:=JI _) (Gj (Qk ⟨_,rfl,Qk h⟩) htake))
end
end HT
namespace L2
open PySem PySem.Spec PyProof.Rows
abbrev TO:=St->Hp->(Option Int->Hp->Prop)->Prop
def PO (X:Cx)(e:Option Expr)(t:TO):Prop :=
 ∀ (pins:List (Addr×Obj)) (s:Qg) (σ:St) (H:Hp) (Q:Option Int->Hp->Prop),Inv X pins σ H s->t σ H Q ->
  Qr (QA X.prog X.w) X.A (evalPart e X.env) (fun u s'=>∃ o H',Inv X pins σ H' s'/\Ny u o/\Q o H') X.xe s
def YR:TO:=fun _ H Q=>Q none H
def Zhb (t:TE):TO:=fun σ H Q=>t σ H fun x H1=>∃ i,x=.int i/\Q (some i) H1
section
variable {X:Cx}{e:Expr}{te:TE}{lo hi:Option Expr}{tl th:TO}{pos p2:Pos}
theorem Zz:PO X none YR:=by
 intro pins s σ H Q I h
 rw [evalPart_none]
 exact Qk ⟨none,H,I,.none,h⟩
theorem Zv (h:PE X e te):PO X (some e) (Zhb te):=by
 intro pins s σ H Q I hw
 rw [evalPart_some]
 refine Zt (h pins s σ H _ I hw) fun u s1 ⟨x,H1,I1,r1,q1⟩=>?_
 obtain ⟨i,rfl,q⟩:=q1
 obtain ⟨t,rfl⟩:=r1
 exact ⟨some i,H1,I1,.int i t,q⟩
def SlR (X:Cx)(r:V->Option Int->Option Int->Hp->VK->Prop):Prop :=
 ∀ (pins:List (Addr×Obj)) (s:Qg) (σ:St) (H:Hp) (x:V) (v vl vu:Qe) (lo hi:Option Int) (sl:Addr) (Q:VK),Inv X pins σ H s->RelV x v->s.heap.IsSliceOf sl vl vu .none->Ny vl lo->Ny vu hi->r x lo hi H Q ->
  ∃ T id,GF (.type T) "__getitem__"=pure (some (.builtin id))/\s.TypeIs v T/\Qr (QA X.prog X.w) X.A (MN v (.ref sl)) (EP X pins σ Q) X.xe s
def tSl (r:V->Option Int->Option Int->Hp->VK->Prop)(te:TE)(tl th:TO):TE:=fun σ H Q=>te σ H fun x H1=>tl σ H1 fun l H2=>th σ H2 fun u H3=>r x l u H3 Q
theorem Zs {r:V->Option Int->Option Int->Hp->VK->Prop}(hr:SlR X r)(he:PE X e te)(hl:PO X lo tl)(hu:PO X hi th):PE X (.Subscript e (.Slice lo hi none p2) pos) (tSl r te tl th):=by
 intro pins s σ H Q I h
 refine Nz (Zt (he pins s σ H _ I h) fun v s1 ⟨x,H1,I1,r1,q1⟩=>?_)
 refine Mx (Zt (hl pins s1 σ H1 _ I1 q1) fun vl s2 ⟨l,H2,I2,pl,q2⟩=>Zt (hu pins s2 σ H2 _ I2 q2) fun vu s3 ⟨u,H3,I3,pu,q3⟩=>?_)
 rw [evalPart_none]
 refine Qk ?_
 have I4:Inv X pins σ H3 { s3 with heap:=s3.heap.push { cls:=.type "slice",data:=.fields #[vl,vu,.none] } }:=I3.kept (t':=s3.toks) fun b ob q=>Qf _ q
 obtain ⟨T,id,hT,ht,hg⟩:=hr pins { s3 with heap:=s3.heap.push { cls:=.type "slice",data:=.fields #[vl,vu,.none] } } σ H3 x v vl vu l u s3.heap.objs.size Q I4 r1 (NA ..) pl pu q3
 show Qr (QA X.prog X.w) X.A (RJ e (.Slice lo hi none p2) v (.ref s3.heap.objs.size)) (EP X pins σ Q) X.xe { s3 with heap:=s3.heap.push { cls:=.type "slice",data:=.fields #[vl,vu,.none] } }
 exact tail_any (ops:=[.ref s3.heap.objs.size,v]) ht hT hg (by with_unfolding_all rfl)
def Xk (xs:List V)(lo hi:Option Int):List V:=(xs.drop (HT.sIx xs.length 0 lo)).take (HT.sIx xs.length xs.length hi - HT.sIx xs.length 0 lo)
theorem Zbe (xs:List V)(lo hi:Option Int):(Xk xs lo hi).length<=xs.length:=by
 unfold Xk
 rw [length_take,length_drop]
 omega
def rSlT (K:Qb):V->Option Int->Option Int->Hp->VK->Prop:=fun x lo hi H Q=>∃ a xs,x=.ref a/\SqT K H a xs /\
 ¬ (HT.sIx xs.length 0 lo=0/\HT.sIx xs.length xs.length hi=xs.length)/\∀ p,H p=none->Q (.ref p) (upd H p (.tup (Xk xs lo hi)))
theorem Zox:SlR X (rSlT X.K):=by
 intro pins s σ H x v vl vu lo hi sl Q I rx hs pl pu h
 obtain ⟨a,xs,rfl,hx,hw,q⟩:=h
 cases rx
 obtain ⟨its,r,ht,hz⟩:=I.tuple hx
 have hlen:its.toArray.size=xs.length:=by rw [size_toArray];exact r.length.symm
 refine ⟨"tuple",_,JL.lookup,ht.typeIs,?_⟩
 refine HT.getItem_tuple_cut ht hs pl pu (by rw [hlen];exact hw) ?_ (by rw [hlen];exact hz)
 rw [hlen]
 refine ⟨.ref s.heap.objs.size,_,I.laid (t':=s.toks) (o:=.tup (Xk xs lo hi)) (fun b ob q=>Qf _ q) (Qh _) ?_,rfl,q _ (I.hok.fresh (Qh _))⟩
 exact ⟨Qw (Zbe xs lo hi) hz,_,(r.drop (HT.sIx xs.length 0 lo)).take (HT.sIx xs.length xs.length hi - HT.sIx xs.length 0 lo),Px _ _⟩
def ZpT (K:Qb):R2:=fun x y H Q=>∃ a b xs ys,x=.ref a/\y=.ref b/\SqT K H a xs/\SqT K H b ys/\xs≠[]/\xs.length+ys.length<=Qi /\
 (ys=[]->Q (.ref a) H)/\(ys≠[]->∀ p,H p=none->Q (.ref p) (upd H p (.tup (xs++ys))))
theorem Vals.nil_iff {xs:List V}{us:List Qe}(r:Vals xs us):us=[]↔xs=[]:=by
 cases r with
 | nil=>simp
 | cons _ _=>simp
theorem ZcK:Xi X (Pb .Add) (ZpT X.K):=by
 intro pins s σ H x y v u Q I rx ry h
 obtain ⟨a,b,xs,ys,rfl,rfl,ha,hb,hx,hz,q1,q2⟩:=h
 cases rx
 cases ry
 obtain ⟨its,r1,p1,_⟩:=I.tuple ha
 obtain ⟨its2,r2,p2,_⟩:=I.tuple hb
 refine HT.cat_tup p1 p2 (fun z=>hx (r1.nil_iff.mp z)) (fun z=>⟨.ref a,H,I,rfl,q1 (r2.nil_iff.mp z)⟩) (fun z=>?_) (by rw [<- r1.length,<- r2.length];exact hz)
 refine ⟨.ref s.heap.objs.size,_,I.laid (t':=s.toks) (o:=.tup (xs++ys)) (fun b ob q=>Qf _ q) (Qh _) ?_,rfl,q2 (fun w=>z (r2.nil_iff.mpr w)) _ (I.hok.fresh (Qh _))⟩
 exact ⟨by rw [length_append];exact hz,_,r1.append r2,Px _ _⟩
end
def ixN (n:Nat)(i:Int):Option Nat:=if 0<=i then (if i < n then some i.toNat else none) else if -(n:Int)<=i then some (i+n).toNat else none
def Xn {α:Type}(xs:List α)(i:Int):Option α:=(ixN xs.length i).bind fun j=>xs[j]?
theorem Zgc {n:Nat}{i:Int}{j:Nat}(h:ixN n i=some j):seqIndex? i n=some j/\j < n/\-(n:Int)<=i/\i < n:=by
 unfold ixN at h
 by_cases h0:0<=i
 ·rw [if_pos h0] at h
  by_cases h1:i < n
  ·rw [if_pos h1] at h
   have e:i.toNat=j:=QZ h
   exact ⟨by rw [My h0 h1,e],by omega,by omega,h1⟩
  ·rw [if_neg h1] at h;cases h
 ·rw [if_neg h0] at h
  by_cases h1:-(n:Int)<=i
  ·rw [if_pos h1] at h
   have e:(i+n).toNat=j:=QZ h
   exact ⟨by rw [NQ (by omega) h1,e],by omega,h1,by omega⟩
  ·rw [if_neg h1] at h;cases h
theorem ZcS {α:Type}{xs:List α}{i:Int}{v:α}(h:Xn xs i=some v):∃ j,seqIndex? i xs.length=some j/\xs[j]?=some v/\j < xs.length/\-(xs.length:Int)<=i/\i < xs.length:=by
 unfold Xn at h
 cases e:ixN xs.length i with
 | none=>rw [e] at h;cases h
 | some j =>
  rw [e] at h
  obtain ⟨h1,h2,h3,h4⟩:=Zgc e
  exact ⟨j,h1,h,h2,h3,h4⟩
theorem ZF {α:Type}{xs:List α}{j:Nat}{v:α}(h:xs[j]?=some v):Xn xs (j:Int)=some v:=by
 have hj:j < xs.length:=(Ql.mp h).1
 have e:ixN xs.length (j:Int)=some j:=by
  unfold ixN
  rw [if_pos (by omega),if_pos (by omega)];simp
 unfold Xn;rw [e];exact h
def ZlS (b:Expr):Prop:=∀ o i,subscripted b false o i=operate [o,i] (MN o i)
def IxR (X:Cx)(r:R2):Prop :=
 ∀ (value slice:Expr) (pins:List (Addr×Obj)) (s:Qg) (σ:St) (H:Hp) (x y:V) (v u:Qe) (Q:VK),Inv X pins σ H s->RelV x v->RelV y u->r x y H Q ->
  subscripted slice false v u=operate [v,u] (MN v u)->Qr (QA X.prog X.w) X.A (RJ value slice v u) (EP X pins σ Q) X.xe s
def MtR (X:Cx)(id:String)(r:V->List V->Hp->VK->Prop):Prop :=
 ∀ (pins:List (Addr×Obj)) (s:Qg) (σ:St) (H:Hp) (x:V) (xs:List V) (v:Qe) (us:List Qe) (Q:VK),Inv X pins σ H s->RelV x v->Vals xs us->r x xs H Q ->
  Qr (QA X.prog X.w) X.A (call (.builtin id) (v::us)) (EP X pins σ Q) X.xe s
section
variable {X:Cx}{a b:Expr}{ta tb:TE}{pos:Pos}
theorem ZG {r:R2}(hr:IxR X r)(ha:PE X a ta)(hb:PE X b tb)(hs:ZlS b):PE X (.Subscript a b pos) (tOp r ta tb):=by
 intro pins s σ H Q I h
 exact Nz (ZkD ha hb I h fun v u s2 x y H2 I2 rx ry q=>hr a b pins s2 σ H2 x y v u Q I2 rx ry q (hs _ _))
def rIxL (K:Qb):R2:=fun x y H Q=>∃ p xs i v,x=.ref p/\y=.int i/\SqL K H p xs/\Xn xs i=some v/\Q v H
def rIxT (K:Qb):R2:=fun x y H Q=>∃ p xs i v,x=.ref p/\y=.int i/\SqT K H p xs/\Xn xs i=some v/\Q v H
def rIxS:R2:=fun x y H Q=>∃ z i c,x=.str z/\y=.int i/\z.length<=Qi/\Xn z.cps.toList i=some c/\Q (.str ⟨#[c]⟩) H
theorem ZR:IxR X (rIxL X.K):=by
 intro value slice pins s σ H x y v u Q I rx ry h hs
 obtain ⟨p,xs,i,z,rfl,rfl,hq,he,q⟩:=h
 cases rx
 obtain ⟨t,rfl⟩:=ry
 obtain ⟨its,r,pl,hz⟩:=I.list hq
 obtain ⟨j,h1,h2,h3,h4,h5⟩:=ZcS he
 obtain ⟨w,ew,rw'⟩:=r.get h2
 have hl:=r.length
 have hn:=UJ
 have fin:EP X pins σ Q w s:=⟨z,H,I,rw',q⟩
 by_cases h0:0<=i
 ·have hj:i.toNat=j:=by
   rw [My h0 h5] at h1
   exact QZ h1
  exact item_listR pl.isList h0 (by omega) (by rw [hj];simpa using ew) fin hs
 ·have hj:(i+(its.toArray.size:Int)).toNat=j:=by
   rw [NQ (by omega) h4] at h1
   rw [size_toArray,<- hl]
   exact QZ h1
  exact On (x:=w) pl.isList.typeIs Rz.lookup
   (wpAny_getItem_list_neg (Q:=fun r s'=>r=w/\EP X pins σ Q r s') pl.isList (by omega) (by rw [size_toArray]<;>omega) (by omega) (by rw [hj];simpa using ew) ⟨rfl,fin⟩) hs
theorem YI:IxR X (rIxT X.K):=by
 intro value slice pins s σ H x y v u Q I rx ry h hs
 obtain ⟨p,xs,i,z,rfl,rfl,hq,he,q⟩:=h
 cases rx
 obtain ⟨t,rfl⟩:=ry
 obtain ⟨its,r,pl,hz⟩:=I.tuple hq
 obtain ⟨j,h1,h2,h3,h4,h5⟩:=ZcS he
 obtain ⟨w,ew,rw'⟩:=r.get h2
 have hl:=r.length
 have hn:=UJ
 have fin:EP X pins σ Q w s:=⟨z,H,I,rw',q⟩
 exact On (x:=w) pl.typeIs slot_tuple_getitem.lookup
  (getItem_tuple (j:=j) (Q:=fun r s'=>r=w/\EP X pins σ Q r s') pl (by omega) (by omega) (by rw [size_toArray,<- hl];exact h1) (by simpa using ew) ⟨rfl,fin⟩) hs
theorem UL:IxR X rIxS:=by
 intro value slice pins s σ H x y v u Q I rx ry h hs
 obtain ⟨z,i,c,rfl,rfl,hz,he,q⟩:=h
 obtain ⟨t,rfl⟩:=rx
 obtain ⟨t',rfl⟩:=ry
 obtain ⟨j,h1,h2,h3,h4,h5⟩:=ZcS he
 have hl:z.cps.toList.length=z.length:=by simp [Oo]
 rw [hl] at h1 h4 h5
 have hn:=UJ
 exact tail_any (Sk s z t) slot_str_getitem.lookup (getItem_str (c:=c) (by
  have e1:decide (i < -(2 ^ 63:Int))=false:=decide_eq_false (by omega)
  have e2:decide (i ≥ 2 ^ 63)=false:=decide_eq_false (by omega)
  rw [e1,e2,RK]) (by rw [h1];simpa using h2) ⟨.str ⟨#[c]⟩,H,I.tok _,⟨_,rfl⟩,q⟩) hs
theorem Zgj (its:List Qe)(n j:Nat)(u:Qe):Op (·.setIfInBounds j u) { cls:=.type "list",data:=.seq its.toArray n }={ cls:=.type "list",data:=.seq (its.set j u).toArray n }:=by
 simp [Op]
theorem Inv.lst {pins:List (Addr×Obj)}{σ:St}{H:Hp}{s:Qg}{p:Addr}{xs:List V}(I:Inv X pins σ H s)(h:H p=some (.lst xs)) :
 ∃ (its:List Qe) (n:Nat),Vals xs its/\s.heap.get? p=some { cls:=.type "list",data:=.seq its.toArray n }/\xs.length<=sizeLine:=by
 obtain ⟨z,its,n,r,e⟩:=I.hok p _ h
 exact ⟨its,n,r,e,z⟩
theorem Inv.lstUpd {pins:List (Addr×Obj)}{σ:St}{H:Hp}{s:Qg}{p:Addr}{xs ys:List V}{its its':List Qe}{n n':Nat}{f:Obj->Obj}(I:Inv X pins σ H s)(h:H p=some (.lst xs))
 (ho:s.heap.get? p=some { cls:=.type "list",data:=.seq its.toArray n }) (hf:f { cls:=.type "list",data:=.seq its.toArray n }={ cls:=.type "list",data:=.seq its'.toArray n' }) (r:Vals ys its') (hz:ys.length<=Qi) (t:Nat) :
 Inv X pins σ (upd H p (.lst ys)) { s with heap:=s.heap.update p f,toks:=t }:=by
 have e:(s.heap.update p f).get? p=some { cls:=.type "list",data:=.seq its'.toArray n' }:=by
  rw [Jn f ho (by rw [hf]<;>rfl),hf]
 refine I.write (x:=p) (e:=p) (by rw [h];trivial) (.inl rfl) (fun b u hb q=>(GS _ _ (GR hb)).trans q) ⟨_,e⟩ ?_
 exact ⟨hz,its',n',r,e⟩
def ZpB:V->V->V->Hp->(Hp->Prop)->Prop:=fun o i v H Q=>∃ p xs k j,o=.ref p/\i=.int k/\H p=some (.lst xs)/\ixN xs.length k=some j/\Q (upd H p (.lst (xs.set j v)))
theorem ZeV:PSet X ZpB:=by
 intro pins s σ H o i v ov iv u Q I ro ri rv h
 obtain ⟨p,xs,k,j,rfl,rfl,hp,hj,q⟩:=h
 cases ro
 obtain ⟨t,rfl⟩:=ri
 obtain ⟨its,n,r,ho,hz⟩:=I.lst hp
 obtain ⟨h1,h2,h3,h4⟩:=Zgc hj
 have hl:=r.length
 have hn:=UJ
 have I':Inv X pins σ (upd H p (.lst (xs.set j v))) { s with heap:=s.heap.update p (Op (·.setIfInBounds j u)) } :=
  I.lstUpd hp ho (Zgj its n j u) (r.set rv j) (by rw [List.length_set];exact hz) s.toks
 by_cases h0:0<=k
 ·have hk:k.toNat=j:=by
   rw [My h0 h4] at h1
   exact QZ h1
  exact PySem.W.ki_setAt ho h0 (by omega) (by rw [size_toArray,<- hl];exact h4) (by rw [hk];exact ⟨_,I',q⟩)
 ·have hk:(k+(its.toArray.size:Int)).toNat=j:=by
   rw [NQ (by omega) h3] at h1
   rw [size_toArray,<- hl]
   exact QZ h1
  exact PySem.W.ki_setBack ho (by omega) (by rw [size_toArray,<- hl];exact h3) (by omega) (by rw [hk];exact ⟨_,I',q⟩)
theorem ZeR (lo hi:Option Int)(n:Nat):(JU lo hi none n).1=((HT.sIx n 0 lo:Nat):Int)/\(JU lo hi none n).2.1=((HT.sIx n n hi:Nat):Int)/\(JU lo hi none n).2.2=1:=by
 refine ⟨?_,?_,rfl⟩
 ·cases lo with
  | none=>simp [JU,HT.sIx]
  | some i =>
   simp only [JU,HT.sIx,Ml,show (1:Int) > 0 by decide,if_true]
   by_cases h:i < 0
   ·simp only [h,if_true]<;>omega
   ·simp only [h,if_false]<;>omega
 ·cases hi with
  | none=>simp [JU,HT.sIx]
  | some i =>
   simp only [JU,HT.sIx,Ml,show (1:Int) > 0 by decide,if_true]
   by_cases h:i < 0
   ·simp only [h,if_true]<;>omega
   ·simp only [h,if_false]<;>omega
theorem ZdM (its:List Qe)(lo hi:Option Int):Mm its.toArray lo hi none=((its.drop (HT.sIx its.length 0 lo)).take (HT.sIx its.length its.length hi - HT.sIx its.length 0 lo)).toArray:=by
 obtain ⟨h1,h2,h3⟩:=ZeR lo hi its.toArray.size
 unfold Mm
 rw [h1,h2,h3]
 simp only [sliceRange_one,pick_run,size_toArray]<;>rfl
def ZkE (K:Qb):V->Option Int->Option Int->Hp->VK->Prop:=fun x lo hi H Q=>∃ a xs,x=.ref a/\SqL K H a xs/\∀ p,H p=none->Q (.ref p) (upd H p (.lst (Xk xs lo hi)))
theorem ZX:SlR X (ZkE X.K):=by
 intro pins s σ H x v vl vu lo hi sl Q I rx hs pl pu h
 obtain ⟨a,xs,rfl,hx,q⟩:=h
 cases rx
 obtain ⟨its,r,ht,hz⟩:=I.list hx
 have hlen:=r.length
 refine ⟨"list",_,Rz.lookup,ht.isList.typeIs,?_⟩
 refine RL ht.isList hs pl pu .none (by simp) ?_ (by rw [size_toArray]<;>omega)
 rw [ZdM,<- hlen]
 refine ⟨.ref s.heap.objs.size,_,I.laid (t':=s.toks) (o:=.lst (Xk xs lo hi)) (fun b ob q=>Qf _ q) (Qh _) ?_,rfl,q _ (I.hok.fresh (Qh _))⟩
 exact ⟨Qw (Zbe xs lo hi) hz,_,0,(r.drop (HT.sIx xs.length 0 lo)).take (HT.sIx xs.length xs.length hi - HT.sIx xs.length 0 lo),Qn _ rfl⟩
def WL:V->Bool
 | .non=>true
 | .bl _=>true
 | .int _=>true
 | .str _=>true
 | _=>false
def Ul:V->V->Bool
 | .non,.non=>true
 | .bl a,.bl b=>a == b
 | .bl a,.int b=>(if a then 1 else 0) == b
 | .int a,.bl b=>a == (if b then 1 else 0)
 | .int a,.int b=>a == b
 | .str a,.str b=>a == b
 | _,_=>false
theorem Znz {A:QK}{s:Qg}{y x:V}{u v:Qe}(ry:RelV y u)(rx:RelV x v)(fy:WL y=true)(fx:WL x=true):SeqAt.EqAt A s u v (Ul y x):=by
 cases y with
 | non =>
  cases ry
  cases x with
  | non=>cases rx;exact SeqAt.EqAt.same _
  | bl b=>cases rx;exact SeqAt.EqAt.none_bool b
  | int b=>obtain ⟨t,rfl⟩:=rx;exact SeqAt.EqAt.none_int b t
  | str b=>obtain ⟨t,rfl⟩:=rx;exact SeqAt.EqAt.none_str b t
  | _=>exact absurd (show false=true from fx) Qv
 | bl a =>
  cases ry
  cases x with
  | non=>cases rx;exact SeqAt.EqAt.bool_none a
  | bl b=>cases rx;exact SeqAt.EqAt.bool_bool a b
  | int b=>obtain ⟨t,rfl⟩:=rx;exact SeqAt.EqAt.bool_int a b t
  | str b=>obtain ⟨t,rfl⟩:=rx;exact SeqAt.EqAt.bool_str a b t
  | _=>exact absurd (show false=true from fx) Qv
 | int a =>
  obtain ⟨t',rfl⟩:=ry
  cases x with
  | non=>cases rx;exact SeqAt.EqAt.int_none a t'
  | bl b=>cases rx;exact SeqAt.EqAt.int_bool a t' b
  | int b=>obtain ⟨t,rfl⟩:=rx;exact SeqAt.EqAt.int_int a t' b t
  | str b=>obtain ⟨t,rfl⟩:=rx;exact Nt a t' b t
  | _=>exact absurd (show false=true from fx) Qv
 | str a =>
  obtain ⟨t',rfl⟩:=ry
  cases x with
  | non=>cases rx;exact SeqAt.EqAt.str_none a t'
  | bl b=>cases rx;exact SeqAt.EqAt.str_bool a t' b
  | int b=>obtain ⟨t,rfl⟩:=rx;exact Nu a t' b t
  | str b=>obtain ⟨t,rfl⟩:=rx;exact SeqAt.EqAt.str_str a t' b t
  | _=>exact absurd (show false=true from fx) Qv
 | _=>exact absurd (show false=true from fy) Qv
def WG (x:V)(u:Qe):Bool:=match u with
 | .none=>Ul .non x
 | .bool b=>Ul (.bl b) x
 | .int i _=>Ul (.int i) x
 | .str z _=>Ul (.str z) x
 | _=>false
theorem Zck {x y:V}{u:Qe}(r:RelV y u)(f:WL y=true):WG x u=Ul y x:=by
 cases y with
 | non=>cases r;rfl
 | bl b=>cases r;rfl
 | int i=>obtain ⟨t,rfl⟩:=r;rfl
 | str z=>obtain ⟨t,rfl⟩:=r;rfl
 | _=>exact absurd (show false=true from f) Qv
theorem VM {x:V}:∀{xs:List V}{us:List Qe},Vals xs us->xs.all WL=true->us.any (WG x)=xs.any fun y=>Ul y x
 | _,_,.nil,_=>rfl
 | y::xs,u::us,.cons r t,f=>by
  rw [So,QL] at f
  rw [any_cons,any_cons,Zck r f.1,VM t f.2]
theorem WQ {A:QK}{s:Qg}{x:V}{v:Qe}(rx:RelV x v)(fx:WL x=true):∀{xs:List V}{us:List Qe},Vals xs us->xs.all WL=true->∀ u∈us,SeqAt.EqAt A s u v (WG x u)
 | _,_,.nil,_=>fun u hu=>by cases hu
 | y::xs,u::us,.cons r t,f=>fun u' hu=>by
  rw [So,QL] at f
  rcases mem_cons.mp hu with rfl | hu
  ·rw [Zck r f.1];exact Znz r rx f.1 fx
  ·exact WQ rx fx t f.2 u' hu
def YL (x:V)(xs:List V):Bool:=xs.any fun y=>Ul y x
def rIn (K:Qb)(neg:Bool):R2:=fun x y H Q=>∃ p xs,y=.ref p/\(SqL K H p xs\/SqT K H p xs)/\WL x=true/\xs.all WL=true/\Q (.bl (if neg then !YL x xs else YL x xs)) H
theorem Wo:Xi X (GO .In) (rIn X.K false):=by
 intro pins s σ H x y v u Q I rx ry h
 obtain ⟨p,xs,rfl,hq,fx,fs,q⟩:=h
 cases ry
 rcases hq with hq | hq
 ·obtain ⟨its,r,pl,hz⟩:=I.list hq
  refine SeqAt.in_listAt (WG x) pl.isList (fun w hw=>WQ rx fx r fs w (by simpa using hw)) ⟨.bl _,H,I,rfl,?_⟩
  rw [show its.toArray.any (WG x)=its.any (WG x) by simp,VM r fs]
  exact q
 ·obtain ⟨its,r,pl,hz⟩:=I.tuple hq
  refine SeqAt.in_tupleAt (WG x) pl (fun w hw=>WQ rx fx r fs w (by simpa using hw)) ⟨.bl _,H,I,rfl,?_⟩
  rw [show its.toArray.any (WG x)=its.any (WG x) by simp,VM r fs]
  exact q
theorem Vi:Xi X (GO .NotIn) (rIn X.K true):=by
 intro pins s σ H x y v u Q I rx ry h
 obtain ⟨p,xs,rfl,hq,fx,fs,q⟩:=h
 cases ry
 rcases hq with hq | hq
 ·obtain ⟨its,r,pl,hz⟩:=I.list hq
  refine SeqAt.notIn_listAt (WG x) pl.isList (fun w hw=>WQ rx fx r fs w (by simpa using hw)) ⟨.bl _,H,I,rfl,?_⟩
  rw [show its.toArray.any (WG x)=its.any (WG x) by simp,VM r fs]
  exact q
 ·obtain ⟨its,r,pl,hz⟩:=I.tuple hq
  refine SeqAt.notIn_tupleAt (WG x) pl (fun w hw=>WQ rx fx r fs w (by simpa using hw)) ⟨.bl _,H,I,rfl,?_⟩
  rw [show its.toArray.any (WG x)=its.any (WG x) by simp,VM r fs]
  exact q
theorem ZP:Xe X (.builtin "len") (fun xs H Q=>∃ p ys,xs=[.ref p]/\(SqL X.K H p ys\/SqT X.K H p ys)/\Q (.int ys.length) H):=by
 intro pins s σ H xs us Q I r h
 obtain ⟨p,ys,rfl,hq,q⟩:=h
 obtain ⟨u,rfl,rx⟩:=YU r
 cases rx
 have hn:=UJ
 rcases hq with hq | hq
 ·obtain ⟨its,r',pl,hz⟩:=I.list hq
  have hlen:=r'.length
  exact Ng pl.isList (by simp only [size_toArray]<;>omega) ⟨.int ys.length,H,I.tok _,⟨s.toks+1,by rw [size_toArray,hlen]⟩,q⟩
 ·obtain ⟨its,r',pl,hz⟩:=I.tuple hq
  have hlen:=r'.length
  exact len_tuple pl (by simp only [size_toArray]<;>omega) ⟨.int ys.length,H,I.tok _,⟨s.toks+1,by rw [size_toArray,hlen]⟩,q⟩
theorem ZQ:Xe X (.builtin "len") (fun xs H Q=>∃ z,xs=[.str z]/\z.length<=Qi/\Q (.int z.length) H):=by
 intro pins s σ H xs us Q I r h
 obtain ⟨z,rfl,hz,q⟩:=h
 obtain ⟨u,rfl,t,rfl⟩:=YU r
 have hn:=UJ
 exact len_str (by omega) ⟨.int z.length,H,I.tok _,⟨_,rfl⟩,q⟩
theorem We:Xe X (.type "tuple") (fun xs H Q=>∃ p ys,xs=[.ref p]/\((SqL X.K H p ys/\∀ l,H l=none->Q (.ref l) (upd H l (.tup ys)))\/(SqT X.K H p ys/\Q (.ref p) H))):=by
 intro pins s σ H xs us Q I r h
 obtain ⟨p,ys,rfl,h⟩:=h
 obtain ⟨u,rfl,rx⟩:=YU r
 cases rx
 rcases h with ⟨hq,q⟩ | ⟨hq,q⟩
 ·obtain ⟨its,r',pl,hz⟩:=I.list hq
  have hlen:=r'.length
  refine call_tuple_list pl.isList (fun h' kp=>?_) (by simp only [size_toArray]<;>omega)
  have I1:Inv X pins σ H { s with heap:=h' }:=I.kept (t':=s.toks) kp
  have I2:Inv X pins σ (upd H h'.objs.size (.tup ys)) { s with heap:=h'.push { cls:=.type "tuple",data:=.seq its.toArray } } :=
   I1.laid (t':=s.toks) (fun b o e=>Qf _ e) (Qh _) (show ObjOk X.prog X.w _ _ _ (.tup ys) from ⟨hz,its,r',Px _ _⟩)
  exact ⟨.ref h'.objs.size,_,I2,rfl,q _ (I1.hok.fresh (Qh _))⟩
 ·obtain ⟨its,r',pl,hz⟩:=I.tuple hq
  exact call_tuple_same pl ⟨.ref p,H,I,rfl,q⟩
def tyV (K:Qb)(T:String)(x:V)(H:Hp):Prop:=match x with
 | .str _=>T="str"
 | .int _=>T="int"
 | .ref p=>(T="list"/\∃ xs,SqL K H p xs)\/(T="tuple"/\∃ o,K.lookup p=some o/\o.cls=.type "tuple"/\o.dict=none) \/
     (T="dict"/\((∃ kvs,H p=some (.dK kvs))\/∃ kvs,H p=some (.dT kvs)))\/(T="set"/\∃ S n,H p=some (.set S n))
 | _=>False
theorem ZhR {pins:List (Addr×Obj)}{σ:St}{H:Hp}{s:Qg}{T:String}{x:V}{v:Qe}(I:Inv X pins σ H s)(r:RelV x v)(ty:tyV X.K T x H) :
 s.TypeIs v T/\∀ a,v=.ref a->∃ ob,s.heap.get? a=some ob/\ob.dict=none:=by
 cases x with
 | str z =>
  obtain ⟨t,rfl⟩:=r
  cases (show T="str" from ty)
  exact ⟨Sk s z t,fun _ e=>nomatch e⟩
 | int i =>
  obtain ⟨t,rfl⟩:=r
  cases (show T="int" from ty)
  exact ⟨typeIs_int s i t,fun _ e=>nomatch e⟩
 | ref p =>
  cases r
  rcases ty with ⟨rfl,xs,hq⟩ | ⟨rfl,o,hk,hc,hd⟩ | ⟨rfl,hk⟩ | ⟨rfl,S,n,hk⟩
  ·obtain ⟨its,_,pl,_⟩:=I.list hq
   refine ⟨pl.isList.typeIs,fun a e=>?_⟩
   cases e
   obtain ⟨o,n,e,c,hd,_⟩:=pl
   exact ⟨o,e,hd⟩
  ·refine ⟨⟨o,I.kIn p o hk,hc⟩,fun a e=>?_⟩
   cases e
   exact ⟨o,I.kIn _ o hk,hd⟩
  ·have z:∃ o,s.heap.get? p=some o/\o.ExactDict:=by
    rcases hk with ⟨kvs,hk⟩ | ⟨kvs,hk⟩
    ·obtain ⟨_,_,_,_,o,_,_,e,ex,_⟩:=I.hok p _ hk
     exact ⟨o,e,ex⟩
    ·obtain ⟨_,_,_,_,o,_,_,e,ex,_⟩:=I.hok p _ hk
     exact ⟨o,e,ex⟩
   obtain ⟨o,e,ex⟩:=z
   refine ⟨⟨o,e,ex.1⟩,fun a e2=>?_⟩
   cases e2
   exact ⟨o,e,ex.2.1⟩
  ·obtain ⟨o,_,_,_,e,ex,_⟩:=I.hok p _ hk
   refine ⟨⟨o,e,ex.1⟩,fun a e2=>?_⟩
   cases e2
   exact ⟨o,e,ex.2.1⟩
 | _=>exact Gh ty
def tBM (K:Qb)(T:String)(r:V->List V->Hp->VK->Prop)(to:TE)(t:TA):TE:=fun σ H Q=>to σ H fun x H1=>tyV K T x H1/\t σ H1 fun xs H2=>r x xs H2 Q
variable {o e:Expr}{es:List Expr}{to:TE}{t:TA}{name:Str}{apos cpos:Pos}{T id:String}{r:V->List V->Hp->VK->Prop}
theorem ZU (pa:PlainAttrs T)(slot:Slot T name id)(hty:typeOf (.builtin id)=pure (.type "method_descriptor"))(hm:MtR X id r)(ho:PE X o to)(ha:PA X (e::es) t)
 (hbase:PV o name X.env (eval o X.env)=eval o X.env:=by rfl)
 (hfew:((Jp cpos (QH (e::es) X.env)).all (fun x=>!x.1)&&(OO cpos (Sy [] X.env)).all (fun x=>x.1.isSome)
  && decide ((e::es).length+([]:List SR).length+(if ([]:List SR).isEmpty then 0 else 1) < 30))=true:=by rfl)
 (hline:(apos.endLine == cpos.line)=true:=by rfl) (hs:QH (e::es) X.env=(false,eval e X.env)::QH es X.env:=by rfl) (hplain:(Jp cpos (QH es X.env)).any (·.1)=false:=by rfl) :
 PE X (.Call (.Attribute o name apos) (e::es) [] cpos) (tBM X.K T r to t):=by
 intro pins s σ H Q I h
 refine Oq hbase hfew hline rfl (Zt (ho pins s σ H _ I h) fun v s1 ⟨x,H1,I1,r1,ty,q1⟩=>?_)
 obtain ⟨h1,h2⟩:=ZhR I1 r1 ty
 refine ⟨T,id,pa,slot,hty,h1,h2,?_⟩
 have hA:=ha cpos pins s1 σ H1 _ I1 q1
 rw [hs] at hA ⊢
 refine Je (by show (false || (Jp cpos (QH es X.env)).any (·.1))=false;rw [hplain]<;>rfl) (Jy ?_)
 exact Zt hA fun us s2 ⟨vs,H2,I2,r2,q2⟩=>hm pins s2 σ H2 x vs v us Q I2 r1 r2 q2
end
def MtM (X:Cx)(id:String)(r:V->List V->Hp->VK->Prop):Prop :=
 ∀ (pins:List (Addr×Obj)) (s:Qg) (σ:St) (H:Hp) (x:V) (xs:List V) (v:Qe) (us:List Qe) (Q:VK),Inv X pins σ H s->RelV x v->Vals xs us->r x xs H Q ->
  Qr (QA X.prog X.w) X.A (call (.builtin id) (v::us)) (EP X pins σ Q) X.xe s
theorem Vals.one:∀{x:V}{us:List Qe},Vals [x] us->∃ u,us=[u]/\RelV x u
 | _,_,.cons r .nil=>⟨_,rfl,r⟩
theorem Vals.reverse {xs:List V}{us:List Qe}(h:Vals xs us):Vals xs.reverse us.reverse:=by
 induction h with
 | nil=>exact .nil
 | cons r t ih=>rw [NR,NR];exact Vals.append ih (.cons r .nil)
section
variable {X:Cx}{pins:List (Addr×Obj)}{σ:St}{H:Hp}{s:Qg}{l b:Addr}{xs ys zs:List V}
theorem Inv.lset {its its':List Qe}{n:Nat}{f:Array Qe->Array Qe}{t':Nat}(I:Inv X pins σ H s)(hH:H l=some (.lst xs))
 (e:s.heap.get? l=some { cls:=.type "list",data:=.seq its.toArray n }) (hf:f its.toArray=its'.toArray) (hv:Vals ys its') (hz:ys.length<=Qi) :
 Inv X pins σ (upd H l (.lst ys)) { s with heap:=s.heap.update l (Op f),toks:=t' }:=by
 have q:=PySem.IsL.update e f
 rw [hf] at q
 refine I.write (x:=l) (e:=l) (by rw [hH];exact trivial) (.inl rfl) (fun b' u hb hu=>(GS s.heap (Op f) (GR hb)).trans hu) ⟨_,q⟩ ?_
 exact ⟨hz,its',_,hv,q⟩
theorem Inv.lnew {its:List Qe}{t':Nat}(I:Inv X pins σ H s)(hv:Vals ys its)(hz:ys.length<=Qi) :
 Inv X pins σ (upd H s.heap.objs.size (.lst ys)) { s with heap:=s.heap.push { cls:=.type "list",data:=.seq its.toArray },toks:=t' } :=
 I.laid (fun _ _ q=>Qf _ q) (Qh _) ⟨hz,its,0,hv,Qn _ rfl⟩
theorem Inv.fresh (I:Inv X pins σ H s):H s.heap.objs.size=none:=I.hok.fresh (Qh _)
theorem Inv.lstM (I:Inv X pins σ H s)(hH:H l=some (.lst xs)):xs.length<=Qi/\∃ (its:List Qe) (n:Nat),Vals xs its/\xs.length=its.length/\s.heap.get? l=some { cls:=.type "list",data:=.seq its.toArray n }:=by
 obtain ⟨z,its,n,r,e⟩:=I.hok l _ hH
 exact ⟨z,its,n,r,r.length,e⟩
theorem ZjY {n:Nat}(h:n<=Qi):PX n=false:=by
 unfold PX
 exact decide_eq_false (by omega)
end
section
variable {X:Cx}
def ZlZ:V->List V->Hp->VK->Prop:=fun x vs H Q=>∃ l xs y,x=.ref l/\vs=[y]/\H l=some (.lst xs)/\xs.length < Qi/\Q .non (upd H l (.lst (xs++[y])))
theorem YG:MtM X "list.append" ZlZ:=by
 intro pins s σ H x vs v us Q I rx rv h
 obtain ⟨l,xs,y,rfl,rfl,hH,hz,q⟩:=h
 cases rx
 obtain ⟨u,rfl,ru⟩:=rv.one
 obtain ⟨z,its,n,r,hl,e⟩:=I.lstM hH
 refine Sl F.slot_list_append ⟨_,e,rfl⟩ F.entry_list_append (F.args_list_append_2 _ _) (PySem.list_append l its.toArray n u (by rw [size_toArray];omega)) ⟨e,?_⟩
 refine ⟨.non,_,I.lset (its':=its++[u]) hH e (by simp) (r.append (.cons ru .nil)) ?_,rfl,q⟩
 rw [length_append,length_singleton]
 omega
def ZmC:V->List V->Hp->VK->Prop:=fun x vs H Q=>∃ l b xs zs,x=.ref l/\vs=[.ref b]/\H l=some (.lst xs)/\H b=some (.lst zs)/\xs.length+zs.length<=Qi/\Q .non (upd H l (.lst (xs++zs)))
theorem Zdw:MtM X "list.extend" ZmC:=by
 intro pins s σ H x vs v us Q I rx rv h
 obtain ⟨l,b,xs,zs,rfl,rfl,hH,hB,hz,q⟩:=h
 cases rx
 obtain ⟨u,rfl,ru⟩:=rv.one
 cases ru
 obtain ⟨z,its,n,r,hl,e⟩:=I.lstM hH
 obtain ⟨z2,its2,n2,r2,hl2,e2⟩:=I.lstM hB
 have hsz:its.toArray.size+its2.toArray.size<=sizeLine:=by rw [size_toArray,size_toArray];omega
 have hlong:¬ (!its.toArray.isEmpty&&PX (its.toArray.size+its2.toArray.size))=true:=by
  rw [ZjY hsz,Bool.and_false]
  exact Qv
 refine Sl F.slot_list_extend ⟨_,e,rfl⟩ F.entry_list_extend (F.args_list_extend_2 _ _)
  (AutoSeq1.list_extend_list_list_0 l its.toArray n b its2.toArray n2 hlong (by rw [size_toArray];omega) (by omega)) ⟨e,e2,?_⟩
 refine ⟨.non,_,I.lset (its':=its++its2) hH e (by simp) (r.append r2) ?_,rfl,q⟩
 rw [length_append]
 omega
def rCat:R2:=fun x y H Q=>∃ l b xs zs,x=.ref l/\y=.ref b/\H l=some (.lst xs)/\H b=some (.lst zs)/\xs.length+zs.length<=Qi/\∀ p,H p=none->Q (.ref p) (upd H p (.lst (xs++zs)))
theorem Yi:Xi X (Pb .Add) rCat:=by
 intro pins s σ H x y v u Q I rx ry h
 obtain ⟨l,b,xs,zs,rfl,rfl,hH,hB,hz,q⟩:=h
 cases rx
 cases ry
 obtain ⟨z,its,n,r,hl,e⟩:=I.lstM hH
 obtain ⟨z2,its2,n2,r2,hl2,e2⟩:=I.lstM hB
 refine PySem.P.add_list e e2 ?_ (by rw [size_toArray,size_toArray];omega)
 have ea:its.toArray++its2.toArray=(its++its2).toArray:=by simp
 rw [ea]
 exact ⟨.ref _,_,I.lnew (t':=s.toks) (r.append r2) (by rw [length_append];omega),rfl,q _ I.fresh⟩
end
section
variable {prog:Qm}{w:QC}{A:QK}{E:Qe->Qg->Prop}{s:Qg}
end
section
variable {X:Cx}
end
end L2
namespace Att
open PySem PySem.W PySem.Calls PyProof.Rows
theorem ZbY {P:Params}{h:Heap}:∀(ns:List Int)(vs:List Qe),WellAll P h vs (ns.map WData.int)->MO vs ns:=by
 intro ns
 induction ns with
 | nil =>
  intro vs w
  rw [List.map_nil] at w
  cases w
  exact .nil
 | cons n ns ih =>
  intro vs w
  rw [map_cons] at w
  cases w with
  | cons a b =>
   cases a
   exact .cons _ _ (ih _ b)
theorem ZhQ {l:OpenLaw}{n:Nat}(hn:l.most=some n){P:Params}{h:Heap}{args:List WData}{vals:List Qe}
 (hpre:l.row.toRowW.claim.pre args=true) (hwl:WellAll P h vals args) :
 ∃ a vs ns,vals=[Qz a]/\args=[WData.list (ns.map WData.int)]/\h.get? a=some { cls:=.type "list",data:=.seq vs.toArray }/\MO vs ns/\ns.length<=n:=by
 have hsh:WShape.hasAll [] args [.list .int]=true:=(pre_splitW hpre).1
 have hc:l.pre.holds [] { args:=args }=true:=(pre_splitW hpre).2
 obtain ⟨d,r,rfl,h1,h2⟩:=hasAllW_cons hsh
 obtain rfl:=hasAllW_nil h2
 obtain ⟨xs,rfl,h3⟩:=hasW_list h1
 obtain ⟨ns,rfl⟩:=items_int h3
 have hlen:ns.length<=n:=by
  unfold OpenLaw.pre at hc
  have h4:(WTm.not (.lt (.lit (.int (n:Int))) (.len (.arg 0)))).holds [] { args:=[.list (ns.map .int)] }=true:=by
   have h4:=(holds_andW hc).1
   rw [hn] at h4
   exact h4
  have h5:=condW_of h4 (w_not (w_lt w_lit (w_len_list (w_arg rfl))))
  rw [length_map] at h5
  refine Nat.le_of_not_lt fun q=>?_
  have q':(n:Int) < ((ns.length:Nat):Int):=by omega
  first
   | (rw [decide_eq_true q'] at h5;exact absurd h5 (by decide))
   | (simp at h5;omega)
 cases hwl with
 | cons w1 w2 =>
  cases w2
  cases w1 with
  | list ho hall=>exact ⟨_,_,ns,rfl,rfl,ho,ZbY ns _ hall,hlen⟩
theorem ZhD (l:OpenLaw)(args:List WData):l.row.toRowW.claim.post args (.bool true) args=true :=
 postW_of (r:=l.row.toRowW) (X:=(true == true))
  (show WShape.has [] (.bool true) .bool=true by first | rfl | decide | simp [WShape.has,WShape.arms,WShape.armsAll])
  (show (WTm.eq .res (.lit (.bool true))).value [] { args:=args,res:=some (.bool true),after:=args }=some (.bool (true == true)) from w_eq_bool (w_res rfl) w_lit) rfl
theorem attach_call {l:OpenLaw}{n:Nat}{q:Qm}{loose:List Str}{XP:(Str->Option Qe)->Heap->Prop}{YP:QC->Heap->Prop}{d:DefRec}
 (hn:l.most=some n) (hdf:d.params.defaults=[])
 (call:∀ (w:QC) (s₀ s₁:Qg) (mg mb:Str->Option Qe) (fa:Addr) (o:Obj) (pm cd doc:Qe) (a:Addr) (vs:List Qe) (ns:List Int),
  Ground q loose [] XP w s₀ mg mb s₁.heap->YP w s₁.heap ->
  s₁.heap.get? fa=some o->o.data=.func (docDef d.name d.params d.body d.scope pm cd doc)->s₁.heap.CodeRec cd d.name->mg d.name=some (.ref fa) ->
  s₁.heap.get? a=some { cls:=.type "list",data:=.seq vs.toArray }->MO vs ns->ns.length<=n->s₁.gens=#[] ->
  Pf (QA l.prog w) Nc (.call (.ref fa) ⟨[.ref a],[]⟩) (fun r s'=>r=.ok (.ret (.bool true))/\OldK s₁.heap s'.heap/\s'.os=s₁.os/\SQ s'.gens) s₁) :
 WalkO q loose XP YP l.row.toRowW d [] (fun f vs=>PySem.call f vs):=by
 intro w s₀ s₁ mg mb G Y fa o pm cd doc dV kV ho hd hcd hD hmg hg args vals as hpre hlay hrd hwl hlo
 obtain rfl:dV=.none:=Dflts.none hD hdf
 obtain rfl:kV=.none:=Dflts.noKw hD
 obtain ⟨a,vs,ns,rfl,rfl,hobj,hints,hlen⟩:=ZhQ hn hpre hwl
 refine enter_call (JW (call w s₀ s₁ mg mb fa o pm cd doc a vs ns G Y ho (fd_plain hd) hcd hmg hobj hints hlen hg) fun r s' hq=>?_)
 obtain ⟨rfl,h2,h3,h4⟩:=hq
 exact ⟨.inl ⟨.bool true,.bool true,[],rfl,fun _=>rfl,.bool true,ZhD l _,fun _=>⟨List.Pairwise.nil,fun _ hm=>(nomatch hm)⟩⟩,h2,h3,h4⟩
section
variable {prog:Qm}{w:QC}{A:QK}{E:Qe->Qg->Prop}{s:Qg}{K:Frag}
end
end Att
namespace L2
open PySem PySem.Spec PyProof.Rows
theorem Zdj:∀{vs:List Qe}{ns:List Int},MO vs ns->Vals (ns.map V.int) vs
 | _,_,.nil=>.nil
 | _,_,.cons n t h=>.cons ⟨t,rfl⟩ (Zdj h)
def Zmb (s:Stmt)(j:Nat):Stmt:=match s with
 | .ClassDef _ _ _ body _ _ _ _ _ _ _=>body.getD j (.Pass ⟨0,0,0,0⟩)
 | _=>.Pass ⟨0,0,0,0⟩
def Zcy (s:Stmt):Arguments:=match s with
 | .FunctionDef _ a _ _ _ _ _ _ _ _=>a
 | _=>{ posonlyargs:=[],args:=[],vararg:=none,kwonlyargs:=[],kw_defaults:=[],kwarg:=none,defaults:=[] }
def Us (s:Stmt):List Stmt:=match s with
 | .FunctionDef _ _ b _ _ _ _ _ _ _=>b
 | _=>[]
def Zl (s:Stmt):Scope:=match s with
 | .FunctionDef _ _ _ _ _ _ sc _ _ _=>sc
 | _=>{ kind:=.function,names:=[],isGenerator:=false,isCoroutine:=false }
abbrev Yc:Vl:=fun _ _ _ _ _ _=>False
abbrev E0:XK:=fun _ _ _=>False
theorem ZpJ {X:Cx}:ZeT Yc X E0:=fun _ _ _ _ _ _ _ h=>h.elim
structure Fun (K:Qb)(x qual:Str)(st:Stmt)(f:Addr)(fd:Qq):Prop where
 ex:∃ (oc:Qe) (od:Option Addr) (kV doc pm:Qe) (an:Option Addr) (cdv ct:Qe) (osl:Array (Option Qe)),
  fd=SU x qual (Zcy st) (Us st) (Zl st) .none kV doc pm an cdv ct/\K.lookup f=some ⟨oc,od,.func fd,osl⟩/\PySem.W.codeIn K cdv qual=true
 kp:Gk K (.ref f)=true
section
variable {P:Qm}{w:QC}{K:Qb}{mg:Str->Option Qe}{base:Heap}
theorem Fun.ok {x qual:Str}{st:Stmt}{f:Addr}{fd:Qq}{N ps:List Str}{k:Nat}{sp:Sp}(F:Fun K x qual st f fd)(S:ZB N ps (Zl st))(len:∀ vs H Q E,sp vs H Q E->vs.length=ps.length)
 (hbody:∀ (cdv:Qe) (A:QK) (outer:List Env) (s:Qg) (H:Hp) (vs:List V) (Q:VK) (E:XK),Room k (A.deeper (Tg qual (Zl st) s.heap.objs.size f cdv))->sp vs H Q E ->
  ∃ t,PSs (Uy Yc P w K mg base N qual (Zl st) f cdv A outer s H E).nox (Us st) t/\t { nx:=fun _ H'=>Q .non H',rt:=Q } (start N vs) H):FnOk P w K mg base Yc (k+1) f fd ps sp:=by
 obtain ⟨oc,od,kV,doc,pm,an,cdv,ct,osl,rfl,lk,hcd⟩:=F.ex
 refine Zlp lk hcd S len fun A outer s H vs Q E hr hsp=>?_
 obtain ⟨t,h,q⟩:=hbody cdv A outer s H vs Q E hr hsp
 exact ⟨t,h.nox,q⟩
theorem Fun.binds {x qual:Str}{st:Stmt}{f:Addr}{fd:Qq}{ps:List Str}(F:Fun K x qual st f fd)
 (h:∀ (kV doc pm:Qe) (an:Option Addr) (cdv ct:Qe) (us:List Qe),us.length=ps.length->bindArgs (SU x qual (Zcy st) (Us st) (Zl st) .none kV doc pm an cdv ct) ⟨us,[]⟩=pure (ps.zip us)):Binds K fd ps []:=by
 obtain ⟨oc,od,kV,doc,pm,an,cdv,ct,osl,rfl,lk,hcd⟩:=F.ex
 exact .all (h kV doc pm an cdv ct)
end
theorem Zgs {A:QK}{k:Nat}(hr:Room k A):A.units+1 < cLine:=JY (Nat.add_le_add_left (by decide:1<=64) _) hr.units
theorem ZiX {n:Nat}(h:n<=1000):n < sizeLine:=JY h (by decide)
section
variable {X:Cx}
theorem pv (i:Nat){x:Str}{pos:Pos}(hN:X.N[i]?=some x:=by rfl)(hv:Vis X.env.scope x:=by first | exact Qy rfl | exact Rn (Qy rfl) | exact Rn (Rn rfl))(hd:(x == ("__debug__":Str))=false:=by decide)
 (hcd:(x == ("__classdict__":Str))=false:=by decide):PE X (.Name x pos) (XV i):=ZhA hN hv hd hcd
end
theorem Zw {A B:Prop}(h:B):if false=true then A else B:=by
 rw [if_neg Qv]
 exact h
theorem Zx {A B:Prop}(h:A):if true=true then A else B:=by
 rw [if_pos rfl]
 exact h
theorem Vj {c A B:Prop}[Decidable c](h1:c->A)(h2:¬ c->B):if c then A else B:=by
 by_cases h:c
 ·rw [if_pos h]
  exact h1 h
 ·rw [if_neg h]
  exact h2 h
def Same (H H':Hp):Prop:=∀ b o,H b=some o->H' b=some o
theorem Same.refl (H:Hp):Same H H:=fun _ _ h=>h
theorem Same.trans {H H1 H2:Hp}(a:Same H H1)(b:Same H1 H2):Same H H2:=fun c o h=>b c o (a c o h)
section
variable {κ:Type}[DecidableEq κ]
def YJ (kvs:List (κ×V))(k:κ):Option V:=(kvs.find? fun kv=>decide (kv.1=k)).map (·.2)
def WS (kvs:List (κ×V))(k:κ)(v:V):List (κ×V) :=
 if (kvs.any fun kv=>decide (kv.1=k))=true then kvs.map (fun kv=>if kv.1=k then (kv.1,v) else kv) else kvs++[(k,v)]
def Wm (kvs:List (κ×V))(k:κ):List (κ×V):=kvs.filter fun kv=>decide (kv.1≠k)
theorem YX {p:κ×V}{r:List (κ×V)}{k:κ}(e:p.1=k):YJ (p::r) k=some p.2:=by simp [YJ,find?_cons,e]
theorem YO {p:κ×V}{r:List (κ×V)}{k:κ}(e:¬ p.1=k):YJ (p::r) k=YJ r k:=by simp [YJ,find?_cons,e]
theorem Zak (k:κ):∀ kvs:List (κ×V),(kvs.any fun kv=>decide (kv.1=k))=(YJ kvs k).isSome
 | []=>rfl
 | p::r=>by
  rw [any_cons]
  by_cases e:p.1=k
  ·simp only [YX e,decide_eq_true e,Bool.true_or,Option.isSome_some]
  ·rw [YO e,decide_eq_false e,Nq];exact Zak k r
theorem Zew (k j:κ)(y:V):∀ kvs:List (κ×V),YJ (kvs.map fun kv=>if kv.1=k then (kv.1,y) else kv) j=(YJ kvs j).map fun x=>if j=k then y else x
 | []=>rfl
 | p :: r=>by
  have ih:=Zew k j y r
  rw [map_cons]
  by_cases h:p.1=k
  ·rw [if_pos h]
   by_cases e:p.1=j
   ·rw [YX (p:=(p.1,y)) e,YX e,Js,if_pos (e.symm.trans h)]
   ·rw [YO (p:=(p.1,y)) e,YO e,ih]
  ·rw [if_neg h]
   by_cases e:p.1=j
   ·rw [YX (p:=p) e,YX e,Js,if_neg (fun z=>h (e.trans z))]
   ·rw [YO (p:=p) e,YO e,ih]
theorem Zdu (k j:κ)(y:V):∀ kvs:List (κ×V),YJ kvs k=none->YJ (kvs++[(k,y)]) j=if j=k then some y else YJ kvs j
 | [],_=>by
  by_cases e:k=j
  ·rw [if_pos e.symm];exact YX (p:=(k,y)) e
  ·rw [if_neg (fun z=>e z.symm)];exact YO (p:=(k,y)) e
 | p::r,hn=>by
  rw [Py]
  have hk:¬ p.1=k:=fun z=>by rw [YX z] at hn;cases hn
  rw [YO hk] at hn
  have ih:=Zdu k j y r hn
  by_cases e:p.1=j
  ·rw [YX e,YX e,if_neg (fun z=>hk (e.trans z))]
  ·rw [YO e,YO e,ih]
theorem Zlc (kvs:List (κ×V))(k j:κ)(y:V):YJ (WS kvs k y) j=if j=k then some y else YJ kvs j:=by
 unfold WS
 by_cases a:(kvs.any fun kv=>decide (kv.1=k))=true
 ·rw [if_pos a,Zew]
  rw [Zak] at a
  by_cases e:j=k
  ·obtain ⟨x,hx⟩:=RH.mp a
   rw [if_pos e,e,hx,Js,if_pos rfl]
  ·rw [if_neg e]
   cases YJ kvs j with
   | none=>rfl
   | some x=>rw [Js,if_neg e]
 ·rw [if_neg a]
  refine Zdu k j y kvs ?_
  rw [Zak] at a
  cases q:YJ kvs k with
  | none=>rfl
  | some x=>rw [q] at a;exact (a rfl).elim
theorem Zbb (kvs:List (κ×V))(k:κ)(v:V):(WS kvs k v).length<=kvs.length+1:=by
 unfold WS
 split
 ·rw [length_map];omega
 ·rw [length_append,length_cons,length_nil];omega
theorem RelO.isSome_eq {o:Option V}{u:Option Qe}(r:RelO o u):o.isSome=u.isSome:=by
 cases o with
 | none=>cases u with
  | none=>rfl
  | some _=>exact (show False from r).elim
 | some _=>cases u with
  | none=>exact (show False from r).elim
  | some _=>rfl
theorem RelO.getD {o:Option V}{u:Option Qe}{d:V}{d':Qe}(r:RelO o u)(rd:RelV d d'):RelV (o.getD d) (u.getD d'):=by
 cases o with
 | none=>cases u with
  | none=>exact rd
  | some _=>exact (show False from r).elim
 | some _=>cases u with
  | none=>exact (show False from r).elim
  | some _=>exact r
theorem KV.val {kvs:List (κ×V)}{vs:List (κ×Qe)}(r:KV kvs vs)(k:κ):RelO (YJ kvs k) (Os vs k):=by
 unfold KV at r
 induction r with
 | nil=>exact GN
 | @cons p q ps qs h t ih =>
  obtain ⟨h1,h2⟩:=h
  by_cases e:p.1=k
  ·have e':q.1=k:=h1.symm.trans e
   have b:Os (q::qs) k=some q.2:=by simp [Os,find?_cons,e']
   rw [YX e,b];exact h2
  ·have e':¬ q.1=k:=fun z=>e (h1.trans z)
   have b:Os (q::qs) k=Os qs k:=by simp [Os,find?_cons,e']
   rw [YO e,b];exact ih
theorem KV.any {kvs:List (κ×V)}{vs:List (κ×Qe)}(r:KV kvs vs)(k:κ):(kvs.any fun kv=>decide (kv.1=k))=vs.any fun kv=>decide (kv.1=k):=by
 unfold KV at r
 induction r with
 | nil=>rfl
 | cons h t ih=>rw [any_cons,any_cons,ih,h.1]
theorem KV.repl {kvs:List (κ×V)}{vs:List (κ×Qe)}(r:KV kvs vs)(k:κ){y:V}{u:Qe}(ry:RelV y u) :
 KV (kvs.map fun kv=>if kv.1=k then (kv.1,y) else kv) (vs.map fun kv=>if kv.1=k then (kv.1,u) else kv):=by
 unfold KV at r ⊢
 induction r with
 | nil=>exact .nil
 | @cons p q ps qs h t ih =>
  rw [map_cons,map_cons]
  refine .cons ?_ ih
  obtain ⟨h1,h2⟩:=h
  by_cases e:p.1=k
  ·rw [if_pos e,if_pos (h1.symm.trans e)];exact ⟨h1,ry⟩
  ·rw [if_neg e,if_neg (fun z=>e (h1.trans z))];exact ⟨h1,h2⟩
theorem KV.put {kvs:List (κ×V)}{vs:List (κ×Qe)}(r:KV kvs vs)(k:κ){y:V}{u:Qe}(ry:RelV y u):KV (WS kvs k y) (stored vs k u):=by
 unfold WS stored
 rw [r.any k]
 by_cases e:(vs.any fun kv=>decide (kv.1=k))=true
 ·rw [if_pos e,if_pos e];exact r.repl k ry
 ·rw [if_neg e,if_neg e];exact Paired.snoc r ⟨rfl,ry⟩
theorem KV.drop {kvs:List (κ×V)}{vs:List (κ×Qe)}(r:KV kvs vs)(k:κ):KV (Wm kvs k) (without vs k):=by
 unfold KV at r ⊢
 unfold Wm without
 induction r with
 | nil=>exact .nil
 | @cons p q ps qs h t ih =>
  obtain ⟨h1,h2⟩:=h
  rw [filter_cons,filter_cons]
  by_cases e:p.1=k
  ·have a:¬ decide (p.1≠k)=true:=by simp [e]
   have b:¬ decide (q.1≠k)=true:=by simp [h1.symm.trans e]
   rw [if_neg a,if_neg b];exact ih
  ·have e':¬ q.1=k:=fun z=>e (h1.trans z)
   have a:decide (p.1≠k)=true:=by simp [e]
   have b:decide (q.1≠k)=true:=by simp [e']
   rw [if_pos a,if_pos b];exact .cons ⟨h1,h2⟩ ih
theorem KV.length {kvs:List (κ×V)}{vs:List (κ×Qe)}(r:KV kvs vs):kvs.length=vs.length:=RF r
theorem Zlb (kvs:List (κ×V))(k:κ):(Wm kvs k).length<=kvs.length:=length_filter_le _ _
end
theorem ZbV {P:Qm}{w:QC}{k:Ys}{u:Qe}(r:RelV (kV k) u):(YK P w).is k u=true:=by
 cases k with
 | inl i=>obtain ⟨t,e⟩:=(show ∃ t,u=Sg i t from r);subst e;exact Zfh P w i t
 | inr x=>obtain ⟨t,e⟩:=(show ∃ t,u=Tl x t from r);subst e;exact Zfp P w x t
theorem Zdn {P:Qm}{w:QC}:∀{ks:List Ys}{us:List Qe},Vals (ks.map kV) us->ItemsAre (YK P w) ks us
 | [],_,r=>by rw [List.map_nil] at r;cases r;exact .nil
 | k::ks,_,r=>by
  rw [map_cons] at r
  cases r with
  | cons h t=>exact .cons (ZbV h) (Zdn t)
abbrev KT (H:Hp):List (List Ys×V)->List (List Ys×Addr×Qe)->Prop:=Paired fun p q=>p.1=q.1/\H q.2.1=some (.tup (p.1.map kV))/\RelV p.2 q.2.2
theorem KT.val {H:Hp}{kvs:List (List Ys×V)}{xs:List (List Ys×Addr×Qe)}(r:KT H kvs xs)(k:List Ys):RelO (YJ kvs k) ((atKey xs k).map (·.2)):=by
 induction r with
 | nil=>exact GN
 | @cons p q ps qs h t ih =>
  obtain ⟨h1,_,h2⟩:=h
  by_cases e:p.1=k
  ·have e':q.1=k:=h1.symm.trans e
   have b:atKey (q::qs) k=some q.2:=by simp [atKey,find?_cons,e']
   rw [YX e,b];exact h2
  ·have e':¬ q.1=k:=fun z=>e (h1.trans z)
   have b:atKey (q::qs) k=atKey qs k:=by simp [atKey,find?_cons,e']
   rw [YO e,b];exact ih
theorem KT.repl {H:Hp}{kvs:List (List Ys×V)}{xs:List (List Ys×Addr×Qe)}(r:KT H kvs xs)(k:List Ys){y:V}{u:Qe}(ry:RelV y u) :
 KT H (kvs.map fun kv=>if kv.1=k then (kv.1,y) else kv) (xs.map (putAt k u)):=by
 induction r with
 | nil=>exact .nil
 | @cons p q ps qs h t ih =>
  rw [map_cons,map_cons]
  refine .cons ?_ ih
  obtain ⟨h1,h2,h3⟩:=h
  unfold putAt
  by_cases e:p.1=k
  ·rw [if_pos e,if_pos (h1.symm.trans e)];exact ⟨h1,h2,ry⟩
  ·rw [if_neg e,if_neg (fun z=>e (h1.trans z))];exact ⟨h1,h2,h3⟩
theorem KT.put {H:Hp}{kvs:List (List Ys×V)}{xs:List (List Ys×Addr×Qe)}(r:KT H kvs xs)(k:List Ys){b:Addr}{y:V}{u:Qe}(hb:H b=some (.tup (k.map kV)))(ry:RelV y u) :
 KT H (WS kvs k y) (storedH xs k b u):=by
 have e:(kvs.any fun kv=>decide (kv.1=k))=(atKey xs k).isSome:=by
  rw [Zak,(r.val k).isSome_eq,Option.isSome_map]
 unfold WS storedH
 rw [e]
 by_cases q:(atKey xs k).isSome=true
 ·rw [if_pos q,if_pos q];exact r.repl k ry
 ·rw [if_neg q,if_neg q];exact Paired.snoc r ⟨rfl,hb,ry⟩
theorem KT.keeps {H H':Hp}{kvs:List (List Ys×V)}{xs:List (List Ys×Addr×Qe)}(r:KT H kvs xs)(ht:∀ b ys,H b=some (.tup ys)->H' b=some (.tup ys)):KT H' kvs xs :=
 MR.mapP r fun _ _ z=>⟨z.1,ht _ _ z.2.1,z.2.2⟩
section
variable {P:Qm}{w:QC}{H:Hp}{h:Heap}{a:Addr}
theorem ZlL {u:HO}(ok:HOk P w H h)(e:Rd H a u):ObjOk P w H h a u:=e.ok ok
theorem ZgX {kvs:List (Ys×V)}(ok:HOk P w H h)(e:Rd H a (.dK kvs)):kvs.length<=Qi/\(a == Jh)=false/\∃ vs,KV kvs vs/\h.DictOf (YK P w) a vs :=
 show ObjOk P w H h a (.dK kvs) from ZlL ok e
theorem Zhm {kvs:List (Ys×V)}(ok:HOk P w H h)(e:H a=some (.dK kvs)):kvs.length<=Qi/\(a == Jh)=false/\∃ vs,KV kvs vs/\h.DictOf (YK P w) a vs:=ZgX ok (.inl e)
theorem Zfc {ks:List Ys}(ok:HOk P w H h)(e:H a=some (.tup (ks.map kV))):(RQ (YK P w)).is h ks a:=by
 obtain ⟨_,its,r,o,h1,h2,n,h3⟩:=(show ObjOk P w H h a (.tup (ks.map kV)) from ok a _ e)
 exact ⟨o,its.toArray,n,h1,h2,h3,by simpa using Zdn r⟩
theorem Zgl {kvs:List (List Ys×V)}(ok:HOk P w H h)(e:Rd H a (.dT kvs)):kvs.length<=Qi/\(a == Jh)=false /\
 ∃ xs,KT H kvs xs/\h.DictOfH (RQ (YK P w)) a xs:=by
 obtain ⟨z,y,xs,r,o,es,ep,h1,h2,h3,h4,h5⟩:=(show ObjOk P w H h a (.dT kvs) from ZlL ok e)
 refine ⟨z,y,xs,r,o,es,ep,h1,h2,h3,h4,fun x hx=>?_,h5⟩
 have all:∀ {l:List (List Ys×V)} {m:List (List Ys×Addr×Qe)},KT H l m->∀ x∈m,(RQ (YK P w)).is h x.1 x.2.1:=by
  intro l m q
  induction q with
  | nil=>intro x hx;exact nomatch hx
  | @cons p q ps qs hq t ih =>
   intro x hx
   rcases mem_cons.mp hx with e | hx
   ·subst e
    exact Zfc ok (by rw [<- hq.1];exact hq.2.1)
   ·exact ih x hx
 exact all r x hx
theorem Zpf {kvs:List (List Ys×V)}(ok:HOk P w H h)(e:H a=some (.dT kvs)):kvs.length<=Qi/\(a == Jh)=false /\
 ∃ xs,KT H kvs xs/\h.DictOfH (RQ (YK P w)) a xs:=Zgl ok (.inl e)
end
def DGet (H:Hp)(a:Addr)(y:V)(r:Option V):Prop :=
 (∃ kvs k,Rd H a (.dK kvs)/\y=kV k/\r=YJ kvs k)\/∃ kvs k b,Rd H a (.dT kvs)/\y=.ref b/\H b=some (.tup (k.map kV))/\r=YJ kvs k
def DPut (H:Hp)(a:Addr)(y v:V)(H':Hp):Prop :=
 (∃ kvs k,H a=some (.dK kvs)/\y=kV k/\kvs.length < Qi/\H'=upd H a (.dK (WS kvs k v))) \/
 ∃ kvs k b,H a=some (.dT kvs)/\y=.ref b/\H b=some (.tup (k.map kV))/\kvs.length < Qi/\H'=upd H a (.dT (WS kvs k v))
section
variable {X:Cx}{pins:List (Addr×Obj)}{σ:St}{H:Hp}{s:Qg}{a:Addr}{y v:V}{u r:Qe}{o:Option V}{A:QK}{E:Qe->Qg->Prop}
theorem Inv.big (I:Inv X pins σ H s):Jh < s.heap.objs.size:=by
 have h:Qx < s.heap.objs.size:=(I.mod.glob.keeps I.bk).lt
 exact Nat.lt_trans (by decide) h
theorem ZcW {h':Heap}{t':Nat}{ob:HO}(I:Inv X pins σ H s)(mu:Mut (H a))(hs:Od a s.heap h')(he:∃ q,h'.get? a=some q)(new:ObjOk X.prog X.w (upd H a ob) h' a ob) :
 Inv X pins σ (upd H a ob) { s with heap:=h',toks:=t' } :=
 I.write (x:=a) (e:=a) mu (.inl rfl) (fun b q hb z=>(hs.2 b hb).trans z) he new
theorem Ziy {P:Qm}{w:QC}{H':Hp}{h':Heap}{kvs:List (Ys×V)}{vs:List (Ys×Qe)}(z:kvs.length<=Qi)(hd:(a == Jh)=false)(rel:KV kvs vs)(dd:h'.DictOf (YK P w) a vs) :
 ObjOk P w H' h' a (.dK kvs):=⟨z,hd,vs,rel,dd⟩
theorem Zjb {H':Hp}{Q:Unit->Qg->Prop}(hu:A.units+1 < cLine)(I:Inv X pins σ H s)(g:DPut H a y v H')(ry:RelV y u)(rv:RelV v r)(h:∀ s',Inv X pins σ H' s'->Q () s') :
 Qr (QA X.prog X.w) A (setItem (.ref a) u r) Q E s:=by
 rcases g with ⟨kvs,k,e,ey,l,eH⟩ | ⟨kvs,k,b,e,ey,eb,l,eH⟩
 ·subst ey eH
  obtain ⟨z,hd,vs,rel,dd⟩:=Zhm I.hok e
  have hz:vs.length<=sizeLine:=by rw [<- rel.length];exact z
  have hl:(WS kvs k v).length<=sizeLine:=by have:=Zbb kvs k v;omega
  refine wpAny_setItem_pairs (hsz:=hz) (ZbV ry) dd fun h' dd' hs=>h _ ?_
  have he:∃ q,h'.get? a=some q:=let ⟨q,_,_,hq,_⟩:=dd';⟨q,hq⟩
  exact ZcW I (by rw [e];exact GN) hs he (Ziy hl hd (rel.put k rv) dd')
 ·subst ey eH
  cases (show u=Qz b from ry)
  obtain ⟨z,hd,xs,rel,dd⟩:=Zpf I.hok e
  have hz:xs.length<=sizeLine:=by rw [<- RF rel];exact z
  have hl:(WS kvs k v).length<=sizeLine:=by have:=Zbb kvs k v;omega
  refine wpAny_setItem_heap (hsz:=hz) (NB hu) (Zfc I.hok eb) dd fun h' dd' hs=>h _ ?_
  obtain ⟨q,es,ep,hq,h2,h3,h4,_,h5⟩:=dd'
  refine ZcW I (by rw [e];exact GN) hs ⟨q,hq⟩ ⟨hl,hd,_,(rel.put k eb rv).keeps fun c ys ec=>?_,q,es,ep,hq,h2,h3,h4,h5⟩
  rw [Zn (ZaQ ec e (fun z=>nomatch z))]
  exact ec
end
section
variable {X:Cx}{pins:List (Addr×Obj)}{σ:St}{H:Hp}{s:Qg}{a:Addr}{kvs:List (Ys×V)}{k:Ys}{u:Qe}{A:QK}{E:Qe->Qg->Prop}
theorem Zpr {v:V}{more:List Qe}{Q:Qe->Qg->Prop}(I:Inv X pins σ H s)(e:H a=some (.dK kvs))(ry:RelV (kV k) u)(l:YJ kvs k=some v)(hm:more=[]\/∃ x,more=[x])
 (h:∀ w' s',Inv X pins σ (upd H a (.dK (Wm kvs k))) s'->RelV v w'->Q w' s'):Qr (QA X.prog X.w) A (call (.builtin "dict.pop") (.ref a::u::more)) Q E s:=by
 obtain ⟨z,hd,vs,rel,dd⟩:=Zhm I.hok e
 obtain ⟨w',hw,rw'⟩:=RelO.some_of (v:=v) (o:=Os vs k) (by rw [<- l];exact rel.val k)
 have hp:(keyPart u).isSome=true:=by
  cases k with
  | inl i=>obtain ⟨t,q⟩:=(show ∃ t,u=Sg i t from ry);subst q;rfl
  | inr x=>obtain ⟨t,q⟩:=(show ∃ t,u=Tl x t from ry);subst q;rfl
 have ha:argsOk "dict.pop" ⟨.ref a::u::more,[]⟩:=by
  rcases hm with q | ⟨x,q⟩
  ·subst q;exact PySem.F.args_dict_pop_2 _ _
  ·subst q;exact RT _ _ _
 refine SV Sb dd.typeIs Ot ha (meets_dict_pop_there (YK X.prog X.w) a (ZbV ry) more hm hp)
  ⟨vs,w',dd,by rw [<- rel.length];exact z,hw,fun h' dd' hs=>h w' _ ?_ rw'⟩
 have he:∃ q,h'.get? a=some q:=let ⟨q,_,_,hq,_⟩:=dd';⟨q,hq⟩
 exact ZcW I (by rw [e];exact GN) hs he (Ziy (Qw (Zlb kvs k) z) hd (rel.drop k) dd')
theorem Zoi {r:Qe}{Q:Qe->Qg->Prop}(I:Inv X pins σ H s)(e:H a=some (.dK kvs))(ry:RelV (kV k) u)(l:YJ kvs k=none)(h:∀ s',Inv X pins σ H s'->Q r s') :
 Qr (QA X.prog X.w) A (call (.builtin "dict.pop") [.ref a,u,r]) Q E s:=by
 obtain ⟨z,hd,vs,rel,dd⟩:=Zhm I.hok e
 have hn:Os vs k=none:=RelO.none_of (by rw [<- l];exact rel.val k)
 have hp:(keyPart u).isSome=true:=by
  cases k with
  | inl i=>obtain ⟨t,q⟩:=(show ∃ t,u=Sg i t from ry);subst q;rfl
  | inr x=>obtain ⟨t,q⟩:=(show ∃ t,u=Tl x t from ry);subst q;rfl
 exact SV Sb dd.typeIs Ot (RT _ _ _) (meets_dict_pop_default (YK X.prog X.w) a (ZbV ry) hd hp r) ⟨vs,dd,hn,h _ (I.tok _)⟩
end
def ZpA (td ty tv:TE):TS:=fun D σ H=>tv σ H fun v H1=>td σ H1 fun x H2=>ty σ H2 fun y H3=>∃ a H4,x=.ref a/\DPut H3 a y v H4/\D.nx σ H4
section
variable {X:Cx}{o i e value:Expr}{pos pos' tpos:Pos}{td ty tv:TE}
theorem ZmM (hu:X.A.units+1 < cLine)(ho:PE X o td)(hi:PE X i ty)(hv:PE X value tv)(hs:Rf value (some (.Subscript o i pos')) pos.line X.env=pure false) :
 PS X (.Assign [.Subscript o i pos'] value pos) (ZpA td ty tv):=by
 intro pins s σ H D I h
 refine wpAny_Assign_Subscript (Zt (hv pins s σ H _ I h) fun r s1 ⟨v,H1,I1,rv,q1⟩=>Zt (ho pins s1 σ H1 _ I1 q1) fun u s2 ⟨x,H2,I2,rx,q2⟩=>Zt (hi pins s2 σ H2 _ I2 q2) fun iv s3 ⟨y,H3,I3,ry,a,H4,ex,g,q3⟩=>?_) hs
 subst ex
 obtain rfl:u=Qz a:=rx
 exact Zjb hu I3 g ry rv fun s4 I4=>⟨σ,H4,I4,q3⟩
end
theorem ZjA {P:Qm}{w:QC}{H:Hp}(h:Heap)(hb:Jh < h.objs.size):ObjOk P w H (h.push { cls:=.type "dict",data:=.dict #[] }) h.objs.size (.dK []) :=
 ⟨Qp _,beq_eq_false_iff_ne.mpr (GR (Qt hb)),[],.nil,Heap.DictOf.new h⟩
def ZoH:TE:=fun _ H Q=>∀ p,H p=none->Q (.ref p) (upd H p (.dK []))
section
variable {X:Cx}{pos:Pos}
theorem Zkx:PE X (.Dict [] [] pos) ZoH:=fun pins s σ H Q I h =>
 wpAny_Dict_empty ⟨.ref s.heap.objs.size,_,I.laid (a:=s.heap.objs.size) (o:=.dK []) (t':=s.toks) (fun _ _ q=>Qf _ q) (Qh _) (ZjA s.heap I.big),rfl,h _ (I.hok.fresh (Qh _))⟩
end
structure M1 (X:Cx)(o:Expr)(m:Str)(apos:Pos)(e:Expr)(cpos:Pos):Prop where
 base:PV o m X.env (eval o X.env)=eval o X.env
 few:((Jp cpos (QH [e] X.env)).all (fun x=>!x.1)&&(OO cpos (Sy [] X.env)).all (fun x=>x.1.isSome)
  && decide (([e]:List Expr).length+([]:List SR).length+(if ([]:List SR).isEmpty then 0 else 1) < 30))=true
 line:(apos.endLine == cpos.line)=true
 trees:Jp cpos (QH [e] X.env)=[(false,eval e X.env)]
structure M2 (X:Cx)(o:Expr)(m:Str)(apos:Pos)(e f:Expr)(cpos:Pos):Prop where
 base:PV o m X.env (eval o X.env)=eval o X.env
 few:((Jp cpos (QH [e,f] X.env)).all (fun x=>!x.1)&&(OO cpos (Sy [] X.env)).all (fun x=>x.1.isSome)
  && decide (([e,f]:List Expr).length+([]:List SR).length+(if ([]:List SR).isEmpty then 0 else 1) < 30))=true
 line:(apos.endLine == cpos.line)=true
 trees:Jp cpos (QH [e,f] X.env)=[(false,eval e X.env),(false,eval f X.env)]
def IsD (H:Hp)(a:Addr):Prop:=(∃ kvs,Rd H a (.dK kvs))\/∃ kvs,Rd H a (.dT kvs)
theorem Zjd {X:Cx}{pins:List (Addr×Obj)}{σ:St}{H:Hp}{s:Qg}{a:Addr}(I:Inv X pins σ H s)(d:IsD H a) :
 s.TypeIs (.ref a) "dict"/\(∀ b,Qz a=.ref b->∃ ob,s.heap.get? b=some ob/\ob.dict=none)/\(a == Jh)=false:=by
 rcases d with ⟨kvs,e⟩ | ⟨kvs,e⟩
 ·obtain ⟨_,hd,vs,_,dd⟩:=ZgX I.hok e
  refine ⟨dd.typeIs,fun b q=>?_,hd⟩
  cases q
  obtain ⟨ob,_,_,h1,h2,_⟩:=dd
  exact ⟨ob,h1,h2.2.1⟩
 ·obtain ⟨_,hd,xs,_,dd⟩:=Zgl I.hok e
  refine ⟨dd.typeIs,fun b q=>?_,hd⟩
  cases q
  obtain ⟨ob,_,_,h1,h2,_⟩:=dd
  exact ⟨ob,h1,h2.2.1⟩
section
variable {X:Cx}{pins:List (Addr×Obj)}{σ:St}{H:Hp}{s:Qg}{a:Addr}{y d:V}{u r:Qe}{o:Option V}{A:QK}{E:Qe->Qg->Prop}
theorem ZnM {Q:Qe->Qg->Prop}(hu:A.units+1 < cLine)(I:Inv X pins σ H s)(g:DGet H a y o)(ry:RelV y u)(rd:RelV d r)(h:∀ w' s',Inv X pins σ H s'->RelV (o.getD d) w'->Q w' s') :
 Qr (QA X.prog X.w) A (call (.builtin "dict.get") [.ref a,u,r]) Q E s:=by
 rcases g with ⟨kvs,k,e,ey,l⟩ | ⟨kvs,k,b,e,ey,eb,l⟩
 ·subst ey
  obtain ⟨z,hd,vs,rel,dd⟩:=ZgX I.hok e
  refine SV Jo dd.typeIs Tz (RU _ _ _) (meets_dict_get_default (YK X.prog X.w) a (ZbV ry) hd r) ⟨_,dd.mapOf,h _ _ (I.tok _) ?_⟩
  rw [l]
  exact (rel.val k).getD rd
 ·subst ey
  cases (show u=Qz b from ry)
  obtain ⟨z,hd,xs,rel,dd⟩:=Zgl I.hok e
  refine SV Jo dd.typeIs Tz (RU _ _ _) (meetsH_dict_get_default (RQ (YK X.prog X.w)) a b hd r) ⟨NB hu,k,xs,Zfc I.hok eb,dd,h _ _ (I.tok _) ?_⟩
  rw [l]
  exact (rel.val k).getD rd
end
def ZiU (td ty tx:TE):TE:=fun σ H Q=>td σ H fun x H1=>∃ a,x=.ref a/\IsD H1 a/\ty σ H1 fun y H2=>tx σ H2 fun z H3=>∃ o,DGet H3 a y o/\Q (o.getD z) H3
def ZhX (td ty tx:TE):TE:=fun σ H Q=>td σ H fun x H1=>∃ a,x=.ref a/\IsD H1 a/\ty σ H1 fun y H2=>tx σ H2 fun z H3=>∃ kvs k,H3 a=some (.dK kvs)/\y=kV k /\
 (∀ v,YJ kvs k=some v->Q v (upd H3 a (.dK (Wm kvs k))))/\(YJ kvs k=none->Q z H3)
section
variable {X:Cx}{o e f:Expr}{apos cpos:Pos}{td ty tx:TE}
theorem Zet (hu:X.A.units+1 < cLine)(ho:PE X o td)(he:PE X e ty)(hf:PE X f tx)(m:M2 X o "get" apos e f cpos):PE X (.Call (.Attribute o "get" apos) [e,f] [] cpos) (ZiU td ty tx):=by
 intro pins s σ H Q I h
 refine RA m.base m.few m.line Tn Jo OG (Zt (ho pins s σ H _ I h) fun u s1 ⟨x,H1,I1,rx,a,ex,d,q1⟩=>?_)
 subst ex
 obtain rfl:u=Qz a:=rx
 obtain ⟨t1,t2,_⟩:=Zjd I1 d
 refine ⟨t1,t2,?_⟩
 rw [m.trees]
 refine Je rfl (Jy (Gz (Zt (he pins s1 σ H1 _ I1 q1) fun iv s2 ⟨y,H2,I2,ry,q2⟩ =>
  Gz (Zt (hf pins s2 σ H2 _ I2 q2) fun fv s3 ⟨z,H3,I3,rz,ov,g,q3⟩=>Jx ?_))))
 exact ZnM hu I3 g ry rz fun w' s4 I4 rw'=>⟨_,H3,I4,rw',q3⟩
theorem Zkp (ho:PE X o td)(he:PE X e ty)(hf:PE X f tx)(m:M2 X o "pop" apos e f cpos):PE X (.Call (.Attribute o "pop" apos) [e,f] [] cpos) (ZhX td ty tx):=by
 intro pins s σ H Q I h
 refine RA m.base m.few m.line Tn Sb PySem.F.type_dict_pop (Zt (ho pins s σ H _ I h) fun u s1 ⟨x,H1,I1,rx,a,ex,d,q1⟩=>?_)
 subst ex
 obtain rfl:u=Qz a:=rx
 obtain ⟨t1,t2,_⟩:=Zjd I1 d
 refine ⟨t1,t2,?_⟩
 rw [m.trees]
 refine Je rfl (Jy (Gz (Zt (he pins s1 σ H1 _ I1 q1) fun iv s2 ⟨y,H2,I2,ry,q2⟩ =>
  Gz (Zt (hf pins s2 σ H2 _ I2 q2) fun fv s3 ⟨z,H3,I3,rz,kvs,k,ea,ey,q3,q4⟩=>Jx ?_))))
 subst ey
 cases l:YJ kvs k with
 | some v=>exact Zpr I3 ea ry l (.inr ⟨fv,rfl⟩) fun w' s4 I4 rw'=>⟨v,_,I4,rw',q3 v l⟩
 | none=>exact Zoi I3 ea ry l fun s4 I4=>⟨z,H3,I4,rz,q4 l⟩
end
section
variable {X:Cx}{pins:List (Addr×Obj)}{σ:St}{H:Hp}{s:Qg}{a:Addr}{kvs:List (Ys×V)}{A:QK}{E:Qe->Qg->Prop}
end
section
variable {X:Cx}{pins:List (Addr×Obj)}{σ:St}{H:Hp}{s:Qg}{a:Addr}{y:V}{u:Qe}{A:QK}{E:Qe->Qg->Prop}
end
section
variable {κ:Type}[DecidableEq κ]
end
theorem ZaB {env:Env}(y:Str):∀ names:List (Str×Tw),
 (names.map fun (n,k)=>if (k == Pd&&env.scope.kind == .function&&env.kindOf n == some .cell) then (n,NameKind.cell) else (n,k)).lookup y =
  (names.lookup y).map fun k=>if (k == Pd&&env.scope.kind == .function&&env.kindOf y == some .cell) then NameKind.cell else k
 | []=>rfl
 | (n, k)::r=>by
  have ih:=ZaB (env:=env) y r
  rw [map_cons]
  cases hx:y == n with
  | true =>
   have e:y=n:=by simpa using hx
   subst e
   by_cases hc:(k == Pd&&env.scope.kind == .function&&env.kindOf y == some .cell)=true
   ·simp only [hc,if_true,lookup_cons,beq_self_eq_true,Js]
   ·simp only [hc,lookup_cons,beq_self_eq_true,Js]
    simp [hc]
  | false =>
   by_cases hc:(k == Pd&&env.scope.kind == .function&&env.kindOf n == some .cell)=true
   ·simp only [hc,if_true,lookup_cons,hx];exact ih
   ·simp only [hc,lookup_cons,hx,JZ,if_false];exact ih
theorem ZK {scope:Scope}{env:Env}{y:Str}{k:Tw}(hcell:∀ z∈scope.names,z.2≠.cell)(h:(MP scope env).names.lookup y=some k) :
 scope.names.lookup y=some k\/(scope.names.lookup y=some .free/\k=.cell):=by
 unfold MP at h
 rw [ZaB] at h
 cases e:scope.names.lookup y with
 | none=>rw [e] at h;cases h
 | some k0 =>
  rw [e] at h
  simp only [Js,Option.some.injEq] at h
  by_cases hc:(k0 == Pd&&env.scope.kind == .function&&env.kindOf y == some .cell)=true
  ·rw [if_pos hc] at h
   right
   simp only [QL,beq_iff_eq] at hc
   exact ⟨by rw [hc.1.1],h.symm⟩
  ·rw [if_neg hc] at h
   left;rw [h]
theorem mem_of_lookup {α:Type}{y:Str}{k:α}:∀{l:List (Str×α)},l.lookup y=some k->(y,k)∈l
 | [],h=>by cases h
 | (n,z)::r,h=>by
  cases hx:y == n with
  | true =>
   have e:y=n:=by simpa using hx
   subst e
   simp only [lookup_cons,beq_self_eq_true] at h
   cases h
   exact mem_cons_self
  | false =>
   simp only [lookup_cons,hx] at h
   exact mem_cons_of_mem _ (mem_of_lookup h)
theorem VU {env:Env}:∀(names:List (Str×Tw))(c0:List (Str×Addr)),(∀ y∈names,y.2=.free->∃ c,env.cells.lookup y.1=some c) ->
 ∃ cl:List (Str×Addr),(forIn names c0 fun (x:Str×Tw) (r:List (Str×Addr))=>(if x.2 == Pd then (do let a <- cellOf env x.1;pure (MC ((x.1,a)::r))) else pure (MC r):Sem (ForInStep (List (Str×Addr)))))=pure cl /\
  (∀ y c,cl.lookup y=some c->c0.lookup y=some c\/env.cells.lookup y=some c)/\(∀ y,c0.lookup y≠none->cl.lookup y≠none)/\∀ y∈names,y.2=.free->cl.lookup y.1≠none
 | [],c0,_=>⟨c0,rfl,fun _ _ h=>.inl h,fun _ h=>h,fun _ h=>(nomatch h)⟩
 | (n, k)::r,c0,h=>by
  by_cases hk:k=.free
  ·subst hk
   obtain ⟨c,hc⟩:=h (n,.free) mem_cons_self rfl
   obtain ⟨cl,e,g1,g2,g3⟩:=VU r ((n,c)::c0) fun y hy=>h y (mem_cons_of_mem _ hy)
   refine ⟨cl,?_,?_,?_,?_⟩
   ·rw [forIn_cons]
    have hcell:cellOf env n=pure c:=by unfold cellOf;rw [hc]
    simp only [beq_self_eq_true,if_true,hcell,pure_bind]
    exact e
   ·intro y d q
    rcases g1 y d q with q | q
    ·cases hx:y == n with
     | true =>
      have e':y=n:=by simpa using hx
      subst e'
      simp only [lookup_cons,beq_self_eq_true] at q
      cases q
      exact .inr hc
     | false=>simp only [lookup_cons,hx] at q;exact .inl q
    ·exact .inr q
   ·intro y q
    apply g2
    cases hx:y == n with
    | true=>simp [lookup_cons,hx]
    | false=>simpa [lookup_cons,hx] using q
   ·intro y hy hf
    rcases mem_cons.mp hy with e' | hy
    ·subst e'
     apply g2
     simp [lookup_cons]
    ·exact g3 y hy hf
  ·obtain ⟨cl,e,g1,g2,g3⟩:=VU r c0 fun y hy=>h y (mem_cons_of_mem _ hy)
   refine ⟨cl,?_,g1,g2,?_⟩
   ·rw [forIn_cons]
    have hb:(k == Pd)=false:=by simpa using hk
    simp only [hb,JZ,if_false,pure_bind]
    exact e
   ·intro y hy hf
    rcases mem_cons.mp hy with e' | hy
    ·subst e';exact absurd hf hk
    ·exact g3 y hy hf
theorem Uj {scope:Scope}{env:Env}(h:∀ y∈scope.names,y.2=.free->∃ c,env.cells.lookup y.1=some c) :
 ∃ cl,closureFor scope env=pure cl/\(∀ y c,cl.lookup y=some c->env.cells.lookup y=some c)/\∀ y∈scope.names,y.2=.free->cl.lookup y.1≠none:=by
 obtain ⟨cl,e,g1,_,g3⟩:=VU (env:=env) scope.names [] h
 refine ⟨cl,?_,fun y c q=>(g1 y c q).elim (fun z=>by cases z) fun z=>z,g3⟩
 simp only [closureFor]
 rw [<- bind_pure (pure cl:Sem _),<- e]
def Ur (N:List Str)(x:Str):List Str:=N.map fun y=>if y=x then "" else y
theorem WX (N:List Str)(x:Str):(Ur N x).length=N.length:=length_map ..
theorem Zba {N:List Str}{x y:Str}{i:Nat}(h:(Ur N x)[i]?=some y):(N[i]?=some y/\y≠x)\/y="":=by
 unfold Ur at h
 rw [getElem?_map] at h
 cases e:N[i]? with
 | none=>rw [e] at h;cases h
 | some z =>
  rw [e] at h
  have h:(if z=x then ("":Str) else z)=y:=QZ h
  by_cases q:z=x
  ·rw [if_pos q] at h;exact .inr h.symm
  ·rw [if_neg q] at h;subst h;exact .inl ⟨rfl,q⟩
def Yp (X:Cx)(scope:Scope)(x:Str)(cl:List (Str×Addr))(C:Addr)(s₀:Qg)(H₀:Hp)(fp:List Addr):Cx :=
 {prog:=X.prog,w:=X.w,K:=X.K,mg:=X.mg,base:=X.base,A:=X.A,N:=Ur X.N x++[x],s₀:=s₀,H₀:=H₀,env:=TC scope cl C X.env,outer:=X.stack,stack:=X.stack,
  ex:=fp,fn:=fun _=>false,calm:=X.calm,pn:=[],xe:=fun _ _=>False }
def Vs (J:It)(te:TE)(σ:St)(D:Addr)(Q:VK)(H1:Hp):Prop :=
 ∃ W:Nat->Nat->List V->Hp->Prop,(∃ m,W 0 m [] (upd H1 D (.lst [])))/\∀ i m ys H2,W i m ys H2 ->
  (J.stop i H2/\Q (.ref D) H2)\/(J.go i H2/\∃ N:VK,(∀ y H4,N y H4->H4 D=some (.lst ys)/\ys.length < Qi/\∃ m',m' < m/\W (i+1) m' (ys++[y]) (upd H4 D (.lst (ys++[y]))))/\∀ v H3,J.yld i H2 v H3->te (σ++[some v]) H3 N)
def ZpP (wi:TI)(te:TE):TE:=fun σ H Q=>wi σ H fun J H1=>∀ D,H1 D=none->Vs J te σ D Q H1
section
variable {X:Cx}{elt iter:Expr}{x:Str}{px pos:Pos}{scope:Scope}{wi:TI}{te:TE}
theorem Uo {prog:Qm}{w:QC}{A:QK}{R:Oh->Qg->Prop}{s:Qg}{elt target iter:Expr}{scope:Scope}{pos:Pos}{it acc:Qe}{env:Env}(I:Nat->Qg->Prop)
   (turn : ∀ n s,I n s->Qr (QA prog w) A (Sj it) (fun r s₁=>match r with
     | none=>R (.ok .next) s₁
     | some v=>Qr (QA prog w) A (Ta target it v) (fun _ s1'=>Qr (QA prog w) A (Pk target env v) (fun _ s₂=>Qr (QA prog w) A (eval elt env) (fun x s₃ =>
         Qr (QA prog w) A (call (.builtin "list.append") [acc,x]) (fun _ s₄=>∃ m,m < n/\I m s₄) (fun _ _=>False) s₃)
         (fun _ _=>False) s₂) (fun _ _=>False) s1') (fun _ _=>False) s₁) (fun _ _=>False) s)
   (n:Nat) (h:I n s) :
   Pf (QA prog w) A (.compLoop (.ListComp elt [⟨target,iter,[],0⟩] scope pos) 0 it acc env) R s:=by
 refine codeAny_loop rfl I (fun n s hI=>?_) n h
 show Qr _ _ ((compTurn (.ListComp elt [⟨target,iter,[],0⟩] scope pos) 0 it acc env).onRaise (fun x=>do Mn x env;MD x)) _ _ s
 refine wpAny_noted ?_
 rw [compTurn_list1]
 refine Qd (GC (Qd (QY (turn n s hI) (fun r s₁ h₁=>?_) fun _ _ h'=>h'.elim)))
 cases r with
 | none=>exact Qk h₁
 | some v =>
   refine Qd (QY h₁ (fun _ s1' h1'=>?_) fun _ _ h'=>h'.elim)
   exact Qd (QY h1' (fun _ s₂ h₂=>Qd (Qd (QY h₂ (fun x s₃ h₃=>Qd (QY h₃
     (fun _ s₄ h₄=>Qk (Qk ⟨rfl,h₄⟩)) fun _ _ h'=>h'.elim)) fun _ _ h'=>h'.elim))) fun _ _ h'=>h'.elim)
structure CompOk (X:Cx)(scope:Scope)(x:Str):Prop where
 nd:(Ur X.N x++[x]).Nodup
 clos:∀ y∈scope.names,y.2=.free->X.env.kindOf y.1=some .cell\/X.env.kindOf y.1=some .free
 cell:∀ y∈scope.names,y.2≠.cell
 kind:scope.kind=.function
 names:∀ y∈scope.names,y.2=.local->scope.names.lookup y.1=some .local
 loc:scope.names.lookup x=some .local
 own:∀ y∈X.N,y≠x->scope.names.lookup y≠some .local
 noh:scope.names.lookup ("":Str)=none
theorem ZgO {pins:List (Addr×Obj)}{σ:St}{H2:Hp}{s₂:Qg}{J:It}{fp:List Addr}{it:Addr}{tn:Nat->Heap->Prop}{cl:List (Str×Addr)}{E:Qe->Qg->Prop}{Q:VK}{RR:Qe->Addr->Oh->Qg->Prop}
 (O:CompOk X scope x) (hc:X.calm=true) (cl1:∀ y c,cl.lookup y=some c->X.env.cells.lookup y=some c) (cl2:∀ y∈scope.names,y.2=.free->cl.lookup y.1≠none)
 (he:∀ cl C s₀ H₀ fp,PE (Yp X scope x cl C s₀ H₀ fp) elt te)
 (I2:Inv X pins σ H2 s₂) (T:Ub X.prog X.w X.K (.Name x px) J fp it tn) (st:tn 0 s₂.heap) (f2:∀ b∈fp,YM X pins H2 b)
 (h:∀ D,H2 D=none->Vs J te σ D Q H2)
 (hRR:∀ D C H' s',Inv X pins σ H' s'->YM X pins H' C->(∃ m,s'.heap.Ns C m)->Q (.ref D) H'->RR (.ref D) C (.ok .next) s') :
 Qr (QA X.prog X.w) X.A (MQ []) (fun acc s₃=>Qr (QA X.prog X.w) X.A (OQ scope X.env.globals cl [] X.env.qual none .none (some X.env)) (fun cenv s₄ =>
  Pf (QA X.prog X.w) X.A (.compStart (.ListComp elt [⟨.Name x px,iter,[],0⟩] scope pos) 0 (.ref it) acc { cenv with scope:=MP scope X.env }) (RR acc cenv.locals) s₄) E s₃) E s₂:=by
 have hD:H2 s₂.heap.objs.size=none:=I2.hok.fresh (Qh _)
 refine Gj ?_
 have I3:Inv X pins σ (upd H2 s₂.heap.objs.size (.lst [])) { s₂ with heap:=s₂.heap.push { cls:=.type "list",data:=.seq ([]:List Qe).toArray } } :=
  I2.laid (t':=s₂.toks) (fun b u e=>Qf _ e) (Qh _) ⟨Qp _,[],_,.nil,Qn _ rfl⟩
 have f3:∀ b∈fp,YM X pins (upd H2 s₂.heap.objs.size (.lst [])) b:=fun b hb=>by
  obtain ⟨g0,g1⟩:=f2 b hb
  obtain ⟨o,e,_⟩:=T.obj 0 _ st b hb
  exact ⟨by rw [Zn (Qt (Qj e))];exact g0,g1⟩
 have st3:tn 0 (s₂.heap.push { cls:=.type "list",data:=.seq ([]:List Qe).toArray }):=T.keep _ _ _ st fun b hb o e=>Qf _ e
 obtain ⟨W,⟨m0,w0⟩,turn⟩:=h _ hD
 generalize hDe:s₂.heap.objs.size=D at I3 f3 w0 turn ⊢
 generalize hH3:upd H2 D (.lst [])=H3 at I3 f3 w0 turn ⊢
 generalize hs3:({ s₂ with heap:=s₂.heap.push { cls:=.type "list",data:=.seq ([]:List Qe).toArray } }:Qg)=s₃ at I3
 have st3':tn 0 s₃.heap:=by rw [<- hs3];exact st3
 have hobj:∀ b∈fp,b < s₃.heap.objs.size:=fun b hb=>by
  obtain ⟨o,e,_⟩:=T.obj 0 _ st3' b hb
  exact Qj e
 refine Po O.cell (by intro y hy;simp at hy) (fun h₁ hns₁ hsb₁=>?_) O.kind
 have old:∀ b o,s₃.heap.get? b=some o->h₁.get? b=some o:=fun b o e=>hsb₁.extBut b o (Qt (Qj e)) (Qf _ e)
 generalize hs4:({ s₃ with heap:=h₁,toks:=s₃.toks+([]:List (Str×Qe)).length }:Qg)=s₄
 have h4:s₄.heap=h₁:=by rw [<- hs4]
 have hX:∀ C,YM X pins C s₃.heap.objs.size->True:=fun _ _=>trivial
 have ok':(Yp X scope x cl s₃.heap.objs.size s₃ H3 fp).Ok:=by
  refine ⟨I3.ok.mod,O.kind,I3.ok.glob,I3.ok.blt,Qh _,?_,?_,?_,I3.ok.hd,I3.ok.frames,.inl rfl,?_,I3.bs,Qw I3.ok.bsz I3.sz,?_,?_,I3.stack,I3.stkFree⟩
  ·exact fun y z c e1 e2=>I3.ok.inj y z c (cl1 y c e1) (cl1 z c e2)
  ·intro y hk
   have hf:scope.names.lookup y=some .free:=by
    rcases hk with hk | hk
    ·rcases ZK O.cell hk with q | q
     ·exact absurd rfl (O.cell _ (mem_of_lookup q))
     ·exact q.1
    ·rcases ZK O.cell hk with q | q
     ·exact q
     ·cases q.2
   have:=cl2 _ (mem_of_lookup hf) rfl
   cases e:cl.lookup y with
   | none=>exact absurd e this
   | some c=>exact ⟨c,e⟩
  ·intro y c hf;cases hf
  ·intro b hb
   obtain ⟨g0,g1,g2,g3,g4,g5⟩:=f3 b hb
   exact ⟨Qt (hobj b hb),fun y c e=>g4 y c (cl1 y c e)⟩
  ·intro b o e hb
   obtain ⟨g0,g1,g2,g3,g4,g5⟩:=f3 b hb
   rcases g3 with g3 | g3
   ·exact I3.ok.noex b o e g3
   ·exact absurd (Qj e) (JJ.mpr (Qw I3.ok.bsz g3))
  ·intro b hb hs
   obtain ⟨g0,g1,g2,g3,g4,g5⟩:=f3 b hb
   rcases mem_cons.mp (I3.stkSub b hs) with e | e
   ·exact g1 e
   ·exact g2 e
 have I4 : Inv (Yp X scope x cl s₃.heap.objs.size s₃ H3 fp) [] (σ++[none]) H3 s₄:=by
  obtain ⟨m,hm,hl⟩:=I3.loc
  refine ⟨ok',by rw [<- hs4];rfl,by rw [<- hs4];exact I3.bare,by rw [h4];exact Un.kept old,⟨_,by rw [h4];exact hns₁,?_⟩,?_,I3.hok.fresh (Qh _),fun y c e=>I3.freeC y c (cl1 y c e),?_,by rw [h4];exact I3.hok.kept old,?_⟩
  ·intro i y v e1 e2 e3
   have hlt:i < σ.length:=by
    rcases NT i σ.length with z | z
    ·exact z
    ·rw [getElem?_append_right z] at e2
     cases e:i - σ.length with
     | zero=>rw [e] at e2;simp at e2
     | succ k=>rw [e] at e2;simp at e2
   rw [getElem?_append_left hlt] at e2
   have hsm:∃ k,scope.names.lookup y=some k:=by
    rcases e3 with hk | hk | hk
    ·rcases ZK O.cell hk with q | q
     ·exact ⟨_,q⟩
     ·exact ⟨_,q.1⟩
    ·rcases ZK O.cell hk with q | q
     ·exact ⟨_,q⟩
     ·exact ⟨_,q.1⟩
    ·rcases ZK O.cell hk with q | q
     ·exact ⟨_,q⟩
     ·exact ⟨_,q.1⟩
   obtain ⟨e1',hyx⟩:X.N[i]?=some y/\y≠x:=by
    have e1:(Ur X.N x++[x])[i]?=some y:=e1
    rw [getElem?_append_left (by rw [WX,<- I3.len];exact hlt)] at e1
    rcases Zba e1 with z | z
    ·exact z
    ·obtain ⟨k,hk⟩:=hsm
     rw [z,O.noh] at hk;cases hk
   have hy:y∈X.N:=mem_of_getElem? e1'
   have hf:scope.names.lookup y=some .free:=by
    rcases e3 with hk | hk | hk
    ·rcases ZK O.cell hk with q | q
     ·exact absurd q (O.own y hy hyx)
     ·exact q.1
    ·rcases ZK O.cell hk with q | q
     ·exact absurd rfl (O.cell _ (mem_of_lookup q))
     ·exact q.1
    ·rcases ZK O.cell hk with q | q
     ·exact q
     ·exact q.1
   have hk:=O.clos _ (mem_of_lookup hf) rfl
   have hv:Vis X.env.scope y:=by rcases hk with z | z;exact .inr (.inl z);exact .inr (.inr z)
   obtain ⟨u,ru,lu⟩:=hl i y v e1' e2 hv
   refine ⟨u,ru,?_⟩
   have hkc:(TC scope cl s₃.heap.objs.size X.env).kindOf y=some .cell\/(TC scope cl s₃.heap.objs.size X.env).kindOf y=some .free:=by
    rcases e3 with q | q | q
    ·rcases ZK O.cell q with z | z
     ·exact absurd z (O.own y hy hyx)
     ·cases z.2
    ·exact .inl q
    ·exact .inr q
   rcases lu with ⟨q,_⟩ | ⟨_,c,hcl,hcc⟩
   ·rcases hk with z | z<;>(rw [q] at z;cases z)
   ·refine .inr ⟨hkc,?_⟩
    cases e:cl.lookup y with
    | none=>exact absurd e (cl2 _ (mem_of_lookup hf) rfl)
    | some c' =>
     have:=cl1 y c' e
     rw [hcl] at this
     cases this
     refine ⟨c,e,?_⟩
     rw [h4]
     obtain ⟨oc,ho,hd⟩:=hcc
     exact ⟨oc,old _ _ ho,hd⟩
  ·intro y c e
   obtain ⟨v,oc,ho,hd⟩:=I3.cell y c (cl1 y c e)
   exact ⟨v,oc,by rw [h4];exact old _ _ ho,hd⟩
  ·intro p hp;cases hp
  ·show (σ++[none]).length=(Ur X.N x++[x]).length
   rw [length_append,length_append,WX,I3.len];rfl
 have st4:tn 0 s₄.heap:=by rw [h4];exact T.keep _ _ _ st3' fun b hb o e=>old b o e
 have fpok:∀ {H':Hp},(∀ b∈fp,H' b=none)->∀ b∈fp,YM (Yp X scope x cl s₃.heap.objs.size s₃ H3 fp) [] H' b:=fun hn b hb=>by
  obtain ⟨g0,g1,g2,g3,g4,g5⟩:=f3 b hb
  refine ⟨hn b hb,Qt (hobj b hb),ok'.exfs b hb,.inl hb,fun y c e=>g4 y c (cl1 y c e),?_⟩
  intro p hp;cases hp
 have loop:Pf (QA X.prog X.w) X.A (.compLoop (.ListComp elt [⟨.Name x px,iter,[],0⟩] scope pos) 0 (.ref it) (.ref D) (TC scope cl s₃.heap.objs.size X.env)) (RR (.ref D) s₃.heap.objs.size) s₄:=by
  refine Uo (fun n s'=>∃ i ys w' H',Inv (Yp X scope x cl s₃.heap.objs.size s₃ H3 fp) [] (σ++[w']) H' s'/\tn i s'.heap/\(∀ b∈fp,H' b=none)/\W i n ys H') ?_ m0 ⟨0,[],none,H3,I4,st4,fun b hb=>(f3 b hb).1,w0⟩
  rintro n s5 ⟨i,ys,w',H5,I5,st5,fr5,w5⟩
  rcases turn i n ys H5 w5 with ⟨stop,q⟩ | ⟨go,N,hN,step⟩
  ·refine Zt (T.done (Yp X scope x cl s₃.heap.objs.size s₃ H3 fp) rfl rfl rfl hc i [] s5 _ H5 _ I5 (fpok fr5) st5 stop) fun r s6 ⟨hr,I6⟩=>?_
   subst hr
   obtain ⟨m6,hn6,_⟩:=I6.loc
   have IX:Inv X pins σ H5 s6:=I3.call' (ch:=fp) I6.os I6.base I6.hok I6.bare fun b hb=>by
    obtain ⟨g0,g1,g2,g3,g4,g5⟩:=f3 b hb
    exact ⟨g3,g1,g4,g5⟩
   exact hRR D _ H5 s6 IX (I3.fpOk (Qh _) I6.free) ⟨m6,hn6⟩ q
  ·refine Zt (T.item (Yp X scope x cl s₃.heap.objs.size s₃ H3 fp) rfl rfl rfl hc i [] s5 _ H5 _ I5 (fpok fr5) st5 go) fun r s6 ⟨u,hr,h6⟩=>?_
   subst hr
   refine Zt h6 fun _ s7 ⟨v,H7,I7,r7,y7,st7,fr7⟩=>?_
   have I7':=I7.pinned (fpok fr7) (T.obj _ _ st7)
   have hixN:(Yp X scope x cl s₃.heap.objs.size s₃ H3 fp).N[σ.length]?=some x:=by
    show (Ur X.N x++[x])[σ.length]?=some x
    rw [I3.len,<- WX X.N x];simp
   refine Zt (ZM (X:=Yp X scope x cl s₃.heap.objs.size s₃ H3 fp) (pos:=px) O.nd hixN (.inl (Pp O.loc)) (.inr (Pp O.loc)) _ s7 _ H7 v u (fun σ' H'=>σ'=σ++[some v]/\H'=H7) I7' r7 ⟨by simp,rfl⟩) fun _ s8 ⟨σ8,H8,I8,e8,e8'⟩=>?_
   subst e8 e8'
   refine Zt (he cl s₃.heap.objs.size s₃ H3 fp _ s8 _ H8 _ I8 (step v H8 y7)) fun uy s9 ⟨y,H9,I9,r9,n9⟩=>?_
   obtain ⟨hl9,hz9,m',hm',w9⟩:=hN y H9 n9
   refine Zt (YG (X:=Yp X scope x cl s₃.heap.objs.size s₃ H3 fp) _ s9 _ H9 (.ref D) [y] (.ref D) [uy] (fun v H'=>H'=upd H9 D (.lst (ys++[y]))) I9 rfl (.cons r9 .nil) ⟨D,ys,y,rfl,rfl,hl9,hz9,rfl⟩) fun _ s10 ⟨_,H10,I10,_,e10⟩=>?_
   subst e10
   refine ⟨m',hm',i+1,ys++[y],some v,_,I10.unpinned (pins:=[]),T.keep _ _ _ st7 fun b hb o e=>(I10.pin (b,o) (mem_append_right _ (mem_append_right _ (Xc hb e)))).1,fun b hb=>?_,w9⟩
   obtain ⟨o,e,d⟩:=T.obj _ _ st7 b hb
   exact (I10.pin (b,o) (mem_append_right _ (mem_append_right _ (Xc hb e)))).2.1
 exact TD loop (T.self _ 0 _ _ _ st4 loop)
theorem XM (O:CompOk X scope x)(hc:X.calm=true)(hi:PI X (.Name x px) iter wi)(he:∀ cl C s₀ H₀ fp,PE (Yp X scope x cl C s₀ H₀ fp) elt te)
 (hs:∀ v,Jw iter X.env v=pure v:=by intro _;rfl):PE X (.ListComp elt [⟨.Name x px,iter,[],0⟩] scope pos) (ZpP wi te):=by
 intro pins s σ H Q I h
 obtain ⟨cl,hcl,cl1,cl2⟩:=Uj (scope:=scope) (env:=X.env) fun y hy hf=>I.ok.has _ (O.clos y hy hf)
 rw [Nr]
 refine GZ (use:=none) rfl hs hcl O.kind O.names (Zt (hi pins s σ H _ I h) fun v s1 h1=>Zt h1 fun itv s2 h2=>?_)
 obtain ⟨it,fp,tn,J,H2,e,I2,T,st2,f2,q⟩:=h2
 subst e
 refine ZgO (RR:=fun acc C=>NU (QA X.prog X.w) X.A X.xe none (EP X pins σ Q) acc C) O hc cl1 cl2 he I2 T st2 f2 q ?_
 intro D C H' s' I' ⟨g0,g1,g2,g3,g4,g5⟩ ⟨m,hm⟩ hq
 exact ⟨m,hm,fun h' hs'=>⟨.ref D,H',I'.turned (t':=s'.toks) (fun b o hb e=>(hs'.2 b hb).trans e) g0 g1 g3 g4 g5,rfl,hq⟩⟩
end
theorem ZgB {lo:Int}{n:Nat}{te:TE}{σ:St}{D:Addr}{Q:VK}{H:Hp}(hn:n<=Qi)(Pv:Nat->List V->Hp->Prop)(h0:Pv 0 [] (upd H D (.lst [])))
 (hl:∀ i ys H,Pv i ys H->ys.length=i)
 (hs:∀ i ys H,i < n->Pv i ys H->te (σ++[some (.int (lo+i))]) H fun y H4=>H4 D=some (.lst ys)/\Pv (i+1) (ys++[y]) (upd H4 D (.lst (ys++[y])))) (hd:∀ ys H,Pv n ys H->Q (.ref D) H):Vs (Itr lo n) te σ D Q H:=by
 refine ⟨fun i m ys H=>m=n - i/\i<=n/\Pv i ys H,⟨n,by simp,Qp _,h0⟩,?_⟩
 rintro i m ys H2 ⟨rfl,hi,p⟩
 by_cases hlt:i < n
 ·have hlen:=hl i ys _ p
  refine .inr ⟨hlt,_,fun y H4 (q:H4 D=some (.lst ys)/\Pv (i+1) (ys++[y]) (upd H4 D (.lst (ys++[y]))))=>⟨q.1,by omega,n - (i+1),by omega,rfl,hlt,q.2⟩,fun v H3 y=>?_⟩
  obtain ⟨e,e'⟩:=y
  subst e e'
  exact hs i ys _ hlt p
 ·have e:i=n:=by omega
  subst e
  exact .inl ⟨Qh _,hd ys H2 p⟩
theorem Zib {K:Qb}{a:Addr}{xs:List V}{te:TE}{σ:St}{D:Addr}{Q:VK}{H:Hp}(hn:xs.length<=Qi)(Pv:Nat->List V->Hp->Prop)(h0:Pv 0 [] (upd H D (.lst [])))
 (hl:∀ i ys H,Pv i ys H->ys.length=i/\SqL K H a xs)
 (hs:∀ i x ys H,xs[i]?=some x->Pv i ys H->te (σ++[some x]) H fun y H4=>H4 D=some (.lst ys)/\Pv (i+1) (ys++[y]) (upd H4 D (.lst (ys++[y])))) (hd:∀ ys H,Pv xs.length ys H->Q (.ref D) H):Vs (Itl K a) te σ D Q H:=by
 refine ⟨fun i m ys H=>m=xs.length - i/\i<=xs.length/\Pv i ys H,⟨xs.length,by simp,Qp _,h0⟩,?_⟩
 rintro i m ys H2 ⟨rfl,hi,p⟩
 obtain ⟨hlen,q⟩:=hl i ys _ p
 by_cases hlt:i < xs.length
 ·refine .inr ⟨⟨xs,xs[i],q,by simp [hlt]⟩,_,fun y H4 (q:H4 D=some (.lst ys)/\Pv (i+1) (ys++[y]) (upd H4 D (.lst (ys++[y]))))=>⟨q.1,by omega,xs.length - (i+1),by omega,rfl,hlt,q.2⟩,fun v H3 y=>?_⟩
  obtain ⟨e,y⟩:=y
  subst e
  exact hs i v ys _ (y xs q) p
 ·have e:i=xs.length:=by omega
  subst e
  exact .inl ⟨⟨xs,q,Qh _⟩,hd ys H2 p⟩
def Its (x:Str):It:=⟨fun i _=>i < x.cps.size,fun i H v H'=>H'=H/\∃ c,x.cps[i]?=some c/\v=.str ⟨#[c]⟩,fun i _=>x.cps.size<=i⟩
theorem Zgy {P:Qm}{w:QC}{K:Qb}{tg:Expr}(x:Str)(t:Tok)(it:Addr):Ub P w K tg (Its x) [it] it (fun i h=>h.IsStrIter it "str_ascii_iterator" x t i) where
 mem:=by simp
 obj:=fun i h st b hb=>by
  have e:b=it:=by simpa using hb
  subst e
  obtain ⟨o,e,c,d⟩:=st
  exact ⟨o,e,fun v z=>by rw [d] at z;cases z⟩
 keep:=fun i h h' st k=>let ⟨o,ho,r⟩:=st;⟨o,k it (by simp) o ho,r⟩
 item:=by
  intro X hP hw hK hc i pins s σ H E I hf st hg
  subst hP hw hK
  obtain ⟨f0,f1,f2,f3,f4,f5⟩:=hf it (by simp)
  have hlt:i < x.cps.size:=hg
  refine wpAny_pyNext_ascii_item st (c:=x.cps[i]) (by simp [hlt]) fun h' st' sb=>?_
  have I1:Inv X pins σ H { s with heap:=h',toks:=s.toks+1 }:=I.turned (t':=s.toks+1) (fun b o hb e=>(sb.2 b hb).trans e) f0 f1 f3 f4 f5
  obtain ⟨o,e,c,d⟩:=id st'
  exact ⟨_,rfl,ZbR (s:={ s with heap:=h',toks:=s.toks+1 }) e c d (by decide) ⟨.str ⟨#[x.cps[i]]⟩,H,I1,⟨_,rfl⟩,⟨rfl,x.cps[i],by simp [hlt],rfl⟩,st',fun b hb=>(hf b hb).1⟩⟩
 done:=by
  intro X hP hw hK hc i pins s σ H E I hf st hg
  subst hP hw hK
  obtain ⟨f0,f1,f2,f3,f4,f5⟩:=hf it (by simp)
  have hle:x.cps.size<=i:=hg
  exact wpAny_pyNext_ascii_end (I.ok.hd hc) st (by simp [hle]) fun h' eb=>⟨rfl,I.turned (t':=s.toks) (fun b o hb e=>eb b o hb e) f0 f1 f3 f4 f5⟩
 self:=fun _ _ _ _ _ st h=>wpAny_pyIter_striter_ascii st h
theorem ZhB {P:Qm}{w:QC}{K:Qb}{tg:Expr}(x:Str)(t:Tok)(it:Addr):Ub P w K tg (Its x) [it] it (fun i h=>h.IsStrIter it "str_iterator" x t i) where
 mem:=by simp
 obj:=fun i h st b hb=>by
  have e:b=it:=by simpa using hb
  subst e
  obtain ⟨o,e,c,d⟩:=st
  exact ⟨o,e,fun v z=>by rw [d] at z;cases z⟩
 keep:=fun i h h' st k=>let ⟨o,ho,r⟩:=st;⟨o,k it (by simp) o ho,r⟩
 item:=by
  intro X hP hw hK hc i pins s σ H E I hf st hg
  subst hP hw hK
  obtain ⟨f0,f1,f2,f3,f4,f5⟩:=hf it (by simp)
  have hlt:i < x.cps.size:=hg
  refine wpAny_pyNext_wide_item st (c:=x.cps[i]) (by simp [hlt]) fun h' st' sb=>?_
  have I1:Inv X pins σ H { s with heap:=h',toks:=s.toks+1 }:=I.turned (t':=s.toks+1) (fun b o hb e=>(sb.2 b hb).trans e) f0 f1 f3 f4 f5
  obtain ⟨o,e,c,d⟩:=id st'
  exact ⟨_,rfl,ZbR (s:={ s with heap:=h',toks:=s.toks+1 }) e c d (by decide) ⟨.str ⟨#[x.cps[i]]⟩,H,I1,⟨_,rfl⟩,⟨rfl,x.cps[i],by simp [hlt],rfl⟩,st',fun b hb=>(hf b hb).1⟩⟩
 done:=by
  intro X hP hw hK hc i pins s σ H E I hf st hg
  subst hP hw hK
  obtain ⟨f0,f1,f2,f3,f4,f5⟩:=hf it (by simp)
  have hle:x.cps.size<=i:=hg
  exact wpAny_pyNext_wide_end (I.ok.hd hc) st (by simp [hle]) fun h' eb=>⟨rfl,I.turned (t':=s.toks) (fun b o hb e=>eb b o hb e) f0 f1 f3 f4 f5⟩
 self:=fun _ _ _ _ _ st h=>wpAny_pyIter_striter_wide st h
def iStr (tl:TE):TI:=fun σ H R=>tl σ H fun v H1=>∃ x,v=.str x/\R (Its x) H1
section
variable {X:Cx}{tg:Expr}
theorem UI {l:Expr}{tl:TE}(hl:PE X l tl):PI X tg l (iStr tl):=by
 intro pins s σ H R I h
 refine Zt (hl pins s σ H _ I h) fun v s1 ⟨z,H1,I1,r1,q1⟩=>?_
 obtain ⟨x,e,q⟩:=q1
 subst e
 obtain ⟨t,rfl⟩:=r1
 have fin:∀ b,b∈[s1.heap.objs.size]->YM X pins H1 b:=fun b hb=>by
  have e:b=s1.heap.objs.size:=by simpa using hb
  subst e
  exact I1.fpOk (Qh _) (I1.hok.fresh (Qh _))
 cases ha:x.cps.all (· < 128)
 ·exact wpAny_pyIter_wide ha ⟨s1.heap.objs.size,[s1.heap.objs.size],_,_,H1,rfl,I1.kept (t':=s1.toks) fun b o e=>Qf _ e,ZhB x t _,⟨_,Qn _ rfl,rfl,rfl⟩,fin,q⟩
 ·exact wpAny_pyIter_ascii ha ⟨s1.heap.objs.size,[s1.heap.objs.size],_,_,H1,rfl,I1.kept (t':=s1.toks) fun b o e=>Qf _ e,Zgy x t _,⟨_,Qn _ rfl,rfl,rfl⟩,fin,q⟩
end
theorem ZeJ {x:Str}{te:TE}{σ:St}{D:Addr}{Q:VK}{H:Hp}(hn:x.length<=Qi)(Pv:Nat->List V->Hp->Prop)(h0:Pv 0 [] (upd H D (.lst [])))
 (hl:∀ i ys H,Pv i ys H->ys.length=i)
 (hs:∀ i c ys H,x.cps[i]?=some c->Pv i ys H->te (σ++[some (.str ⟨#[c]⟩)]) H fun y H4=>H4 D=some (.lst ys)/\Pv (i+1) (ys++[y]) (upd H4 D (.lst (ys++[y])))) (hd:∀ ys H,Pv x.cps.size ys H->Q (.ref D) H):Vs (Its x) te σ D Q H:=by
 have hn':x.cps.size<=sizeLine:=hn
 refine ⟨fun i m ys H=>m=x.cps.size - i/\i<=x.cps.size/\Pv i ys H,⟨x.cps.size,by simp,Qp _,h0⟩,?_⟩
 rintro i m ys H2 ⟨rfl,hi,p⟩
 have hlen:=hl i ys _ p
 by_cases hlt:i < x.cps.size
 ·refine .inr ⟨hlt,_,fun y H4 (q:H4 D=some (.lst ys)/\Pv (i+1) (ys++[y]) (upd H4 D (.lst (ys++[y]))))=>⟨q.1,by omega,x.cps.size - (i+1),by omega,rfl,hlt,q.2⟩,fun v H3 y=>?_⟩
  obtain ⟨e,c,hc,e'⟩:=y
  subst e e'
  exact hs i c ys _ hc p
 ·have e:i=x.cps.size:=by omega
  subst e
  exact .inl ⟨Qh _,hd ys H2 p⟩
section
variable {X:Cx}
theorem YT:Xi X (GO .LtE) (fun x y H Q=>∃ i j,x=.str i/\y=.str j/\Q (.bl (!(decide (j.cps.toList < i.cps.toList)))) H):=by
 intro pins s σ H x y v u Q I rx ry h
 obtain ⟨i,j,rfl,rfl,q⟩:=h
 obtain ⟨t,rfl⟩:=rx
 obtain ⟨t',rfl⟩:=ry
 exact PySem.P.le_str (Yh I q rfl)
theorem Wx (hc:X.calm=true):Xe X (.builtin "all") (fun xs H Q=>∃ (a:Addr) (bs:List Bool),xs=[.ref a]/\SqL X.K H a (bs.map V.bl)/\Q (.bl (bs.all id)) H):=by
 intro pins s σ H xs us Q I r h
 obtain ⟨a,bs,rfl,hq,q⟩:=h
 obtain ⟨u,rfl,ru⟩:=YU r
 cases ru
 obtain ⟨its,rv,p,hz⟩:=I.list hq
 have hlen:=rv.length
 rw [length_map] at hlen
 have hal:a < s.heap.objs.size:=by obtain ⟨_,e,_⟩:=p.isList;exact Qj e
 refine call_all_walk (Jv p.isList ⟨s.heap.objs.size,_,_,_,_,_,fun i=>bs.getD i false,rfl,Walks.list (A:=X.A.in1) (I.ok.hd hc) s.heap.objs.size a (Qt hal) its.toArray,⟨⟨_,Qn _ rfl,rfl,rfl⟩,p.isList.push _⟩,?_,?_⟩)
 ·intro i v s' Q' E' hv hQ'
  have hv':its[i]?=some v:=by simpa using hv
  have hi:i < bs.length:=by
   have:=(Ql.mp hv').1
   omega
  obtain ⟨u,hu,ru⟩:=rv.get (i:=i) (x:=V.bl bs[i]) (by simp [hi])
  rw [hv'] at hu
  cases hu
  have e:v=Rg bs[i]:=ru
  subst e
  have hQ2:Q' (bs.getD i false) s':=hQ'
  rw [Pq,getElem?_eq_getElem hi] at hQ2
  exact Gi hQ2
 ·intro h' tk hk
  have e:(Gs its.toArray.size).all (fun i=>bs.getD i false)=bs.all id:=by
   rw [size_toArray,<- hlen]
   apply Jc.mpr
   rw [all_eq_true,all_eq_true]
   constructor
   ·intro z b hb
    obtain ⟨i,hi,rfl⟩:=List.mem_iff_getElem.mp hb
    have:=z i (mem_range.mpr hi)
    rwa [Pq,getElem?_eq_getElem hi] at this
   ·intro z i hi
    have hi':=mem_range.mp hi
    rw [Pq,getElem?_eq_getElem hi']
    exact z _ (Pz hi')
  rw [e]
  refine ⟨.bl (bs.all id),H,I.kept (t':=tk) fun b o eb=>hk b o ?_ (Qf _ eb),rfl,q⟩
  intro hm
  have:b=s.heap.objs.size:=by simpa using hm
  rw [this] at eb
  exact absurd (Qj eb) (JG _)
theorem Zfu:∀{ys:List Str}{us:List Qe},Vals (ys.map V.str) us->StrsAre us ys
 | [],_,.nil=>.nil
 | y::ys,_,.cons r t=>by obtain ⟨k,rfl⟩:=r;exact .cons _ _ (Zfu t)
theorem Xp:MtR X "str.join" (fun x xs H Q=>∃ sep a ys,x=.str sep/\xs=[.ref a]/\SqL X.K H a (ys.map V.str)/\(ys.map (·.length)).sum+ys.length * sep.length<=16777216/\Q (.str (QM sep ys)) H):=by
 intro pins s σ H x xs v us Q I rx rv h
 obtain ⟨sep,a,ys,rfl,rfl,hq,hz,q⟩:=h
 obtain ⟨t,rfl⟩:=rx
 obtain ⟨u,rfl,ru⟩:=YU rv
 cases ru
 obtain ⟨its,r,p,_⟩:=I.list hq
 exact join_list p.isList (by simpa using Zfu r) hz fun t' k=>⟨.str _,H,I.tok k,⟨_,rfl⟩,q⟩
theorem YA:SlR X (fun x lo hi H Q=>∃ z,x=.str z/\z.length<=Qi/\Q (.str (Qs z lo hi)) H):=by
 intro pins s σ H x v vl vu lo hi sl Q I rx hs pl pu h
 obtain ⟨z,rfl,hz,q⟩:=h
 obtain ⟨t,rfl⟩:=rx
 refine ⟨"str",_,NC.lookup,Sk _ _ _,?_⟩
 have fin:∀ (t':Tok) (k:Nat),EP X pins σ Q (.str (Qs z lo hi) t') { s with toks:=k }:=fun t' k=>⟨.str _,H,I.tok k,⟨_,rfl⟩,q⟩
 obtain ⟨o,ho,hc,hd⟩:=hs
 cases pl<;>cases pu
 ·exact Jb (l:=none) (u:=none) (st:=none) ⟨_,ho,hc,hd⟩ rfl (SJ ⟨Qw (PB z _ _) hz,fin⟩)
 ·rename_i j uj
  exact Jb (l:=none) (u:=some (j,uj)) (st:=none) ⟨_,ho,hc,hd⟩ rfl (SJ ⟨Qw (PB z _ _) hz,fin⟩)
 ·rename_i i ui
  exact Jb (l:=some (i,ui)) (u:=none) (st:=none) ⟨_,ho,hc,hd⟩ rfl (SJ ⟨Qw (PB z _ _) hz,fin⟩)
 ·rename_i i ui j uj
  exact Jb (l:=some (i,ui)) (u:=some (j,uj)) (st:=none) ⟨_,ho,hc,hd⟩ rfl (SJ ⟨Qw (PB z _ _) hz,fin⟩)
theorem WA:Xi X (Pb .Mult) (fun x y H Q=>∃ i n,x=.str i/\y=.int n/\MulOk i n/\Q (.str (PD i n)) H):=by
 intro pins s σ H x y v u Q I rx ry h
 obtain ⟨i,n,rfl,rfl,hok,q⟩:=h
 obtain ⟨t,rfl⟩:=rx
 obtain ⟨t',rfl⟩:=ry
 exact SB.mul hok fun t' k=>⟨.str _,H,I.tok k,⟨_,rfl⟩,q⟩
theorem Vo:Xe X (.type "str") (fun xs H Q=>(∃ i,xs=[.int i]/\i.natAbs.log2 < 1920/\Q (.str (Gn i)) H)\/∃ z,xs=[.str z]/\Q (.str z) H):=by
 intro pins s σ H xs us Q I r h
 rcases h with h | ⟨z,rfl,q⟩
 ·exact ZeQ pins s σ H xs us Q I r h
 ·obtain ⟨u,rfl,t,rfl⟩:=YU r
  exact PySem.P.str_of_str ⟨.str _,H,I,⟨_,rfl⟩,q⟩
end
mutual
inductive DataOf (H:Hp):V->Ji->Prop
 | non:DataOf H .non .none
 | bl (b):DataOf H (.bl b) (.bool b)
 | int (i):DataOf H (.int i) (.int i)
 | str (x):DataOf H (.str x) (.str x)
 | lst {a xs ds}:H a=some (.lst xs)->DatasOf H xs ds->DataOf H (.ref a) (.list ds)
 | tup {a xs ds}:H a=some (.tup xs)->DatasOf H xs ds->DataOf H (.ref a) (.tuple ds)
inductive DatasOf (H:Hp):List V->List Ji->Prop
 | nil:DatasOf H [] []
 | cons {v d vs ds}:DataOf H v d->DatasOf H vs ds->DatasOf H (v::vs) (d::ds)
end
section
variable {P:Qm}{w:QC}{H:Hp}{h:Heap}
mutual
theorem DataOf.reads (hok:HOk P w H h):∀{v d}(u:Qe),DataOf H v d->RelV v u->d.hasDict=false/\∃ as,Reads h u d as
 | _,_,u,.non,r=>by cases (show u=.none from r);exact ⟨rfl,_,.none⟩
 | _,_,u,.bl b,r=>by cases (show u=.bool b from r);exact ⟨rfl,_,.bool b⟩
 | _,_,u,.int i,r=>by obtain ⟨t,e⟩:=(show ∃ t,u=.int i t from r);subst e;exact ⟨rfl,_,.int i t⟩
 | _,_,u,.str x,r=>by obtain ⟨t,e⟩:=(show ∃ t,u=.str x t from r);subst e;exact ⟨rfl,_,.str x t⟩
 | _,_,u,.lst (a:=a) (xs:=xs) e q,r=>by
  cases (show u=.ref a from r)
  obtain ⟨_,its,n,rv,g⟩:=(show ObjOk P w H h a (.lst xs) from hok a _ e)
  obtain ⟨nd,as,ra⟩:=DatasOf.reads hok its q rv
  exact ⟨by simpa [TH] using nd,_,.list g rfl rfl (by simpa using ra)⟩
 | _,_,u,.tup (a:=a) (xs:=xs) e q,r=>by
  cases (show u=.ref a from r)
  obtain ⟨_,its,rv,o,g,c,n,d⟩:=(show ObjOk P w H h a (.tup xs) from hok a _ e)
  obtain ⟨nd,as,ra⟩:=DatasOf.reads hok its q rv
  exact ⟨by simpa [TH] using nd,_,.tuple g c d (by simpa using ra)⟩
theorem DatasOf.reads (hok:HOk P w H h):∀{vs ds}(us:List Qe),DatasOf H vs ds->Vals vs us->Jz ds=false/\∃ as,ReadsAll h us ds as
 | _,_,_,.nil,.nil=>⟨rfl,_,.nil⟩
 | _,_,_,.cons r t,.cons rv tv=>by
  obtain ⟨n1,as,r1⟩:=DataOf.reads hok _ r rv
  obtain ⟨n2,bs,r2⟩:=DatasOf.reads hok _ t tv
  exact ⟨by simp [Jz,n1,n2],_,.cons r1 r2⟩
end
end
section
variable {X:Cx}
end
def Def (P:Qm)(w:QC)(K:Qb)(mg:Str->Option Qe)(base:Heap)(k:Nat)(x:Str)(ps:List Str)(sp:Sp):Prop :=
 ∃ f fd,FnOk P w K mg base Yc k f fd ps sp/\Binds K fd ps []/\Gk K (.ref f)=true/\mg x=some (.ref f)
theorem Def.mono {P:Qm}{w:QC}{K:Qb}{mg:Str->Option Qe}{base:Heap}{j k:Nat}{x:Str}{ps:List Str}{sp:Sp}(D:Def P w K mg base j x ps sp)(h:j<=k):Def P w K mg base k x ps sp :=
 let ⟨f,fd,F,b,kp,m⟩:=D;⟨f,fd,F.mono h,b,kp,m⟩
section
variable {X:Cx}{k:Nat}{x:Str}{ps:List Str}{sp:Sp}{p pos:Pos}{e:Expr}{es:List Expr}{t:TA}
theorem Zu (D:Def X.prog X.w X.K X.mg X.base k x ps sp)(hr:Room k X.A)(ha:PA X (e::es) t)(hg:Gl X x:=by rfl)(hdb:(x == ("__debug__":Str))=false:=by decide)
 (he:QH (e::es) X.env=(false,eval e X.env)::QH es X.env:=by rfl) (hpl:(Jp pos (QH es X.env)).any (·.1)=false:=by rfl) :
 PE X (.Call (.Name x p) (e::es) [] pos) (ZdS sp [] E0 t):=by
 obtain ⟨f,fd,F,b,kp,m⟩:=D
 exact ZlM F hr hg m kp b .nil ZpJ ha hdb he hpl
end
def Kp (p:Addr)(H H':Hp):Prop:=∀ q o,q≠p->H q=some o->H' q=some o
theorem Kp.trans {p:Addr}{H H1 H2:Hp}(a:Kp p H H1)(b:Kp p H1 H2):Kp p H H2:=fun q o n h=>b q o n (a q o n h)
theorem Kp.upd (p:Addr)(H:Hp)(o:HO):Kp p H (upd H p o):=fun q u n h=>by rw [Zn n];exact h
theorem Same.kp {H H':Hp}(a:Same H H')(p:Addr):Kp p H H':=fun q o _ h=>a q o h
theorem Zg {H:Hp}{p:Addr}(h:H p=none)(o:HO):Same H (upd H p o):=fun b u q=>by rw [Zn (ZL q h)];exact q
def BoxAt (H:Hp)(p:Addr)(n:Nat):Prop:=∃ a b c:Int,H p=some (.lst [.int a,.int b,.int c])/\0<=a/\0<=c/\c<=n
theorem BoxAt.same {H H':Hp}{p:Addr}{n:Nat}(h:BoxAt H p n)(s:Same H H'):BoxAt H' p n:=let ⟨a,b,c,e,r⟩:=h;⟨a,b,c,s _ _ e,r⟩
theorem BoxAt.le {H:Hp}{p:Addr}{n m:Nat}(h:BoxAt H p n)(l:n<=m):BoxAt H p m:=let ⟨a,b,c,e,h1,h2,h3⟩:=h;⟨a,b,c,e,h1,h2,by omega⟩
def ZbU (M:Int):Sp:=fun vs H Q _=>∃(p:Addr)(n:Nat)(m:Int),vs=[.ref p,.int m]/\BoxAt H p n/\n<=1000000/\0 < m/\m < M/\∀(r:Int)(H':Hp),0<=r->r < m->BoxAt H' p (n+1)->Kp p H H'->Q (.int r) H'
def ZhP (K:Qb):Sp:=fun vs H Q _=>∃(a:Addr)(ns:List Int)(k:Int),vs=[.ref a,.int k]/\SqL K H a (ns.map V.int)/\0<=k/\∀(r:Int),Q (.int r) H
def Zlu (K:Qb):Sp:=fun vs H Q _=>∃(a:Addr)(ns:List Int)(k:Int),vs=[.ref a,.int k]/\SqL K H a (ns.map V.int)/\0<=k/\k<=1000/\∀(p:Addr)(H':Hp),H p=none->BoxAt H' p 0->Same H H'->Q (.ref p) H'
theorem len1 {n:Nat}(h:n<=1000):n<=sizeLine:=Tq (ZiX h)
def Zfw (N:List Str)(names:List (Str×Tw))(scope:Scope)(x:Str):Bool :=
 decide ((Ur N x++[x]).Nodup)&&scope.names.all (fun y=>(y.2 != .free || names.lookup y.1 == some .cell || names.lookup y.1 == some .free)&&(y.2 != .cell&&(y.2 != .local || scope.names.lookup y.1 == some .local))) &&
 ((scope.kind == .function&&scope.names.lookup x == some .local)&&N.all fun y=>y == x || scope.names.lookup y != some .local)&&scope.names.lookup ("":Str) == none
theorem CompOk.of {X:Cx}{scope:Scope}{x:Str}(N:List Str)(st:Stmt)(hN:X.N=N)(hn:X.env.scope=Zl st)(chk:Zfw N (Zl st).names scope x=true):CompOk X scope x:=by
 unfold Zfw at chk
 simp only [QL,decide_eq_true_eq,all_eq_true,OA,bne_iff_ne,beq_iff_eq] at chk
 obtain ⟨⟨⟨c1,c2⟩,⟨c3,c4⟩,c5⟩,c6⟩:=chk
 refine ⟨by rw [hN];exact c1,fun y hy hf=>?_,fun y hy=>(c2 y hy).2.1,c3,fun y hy hl=>?_,c4,fun y hy hx=>(c5 y (by rw [<- hN];exact hy)).resolve_left hx,c6⟩
 ·show X.env.scope.names.lookup y.1=_\/X.env.scope.names.lookup y.1=_
  rw [hn]
  rcases (c2 y hy).1 with (z | z) | z
  ·exact absurd hf z
  ·exact .inl z
  ·exact .inr z
 ·rcases (c2 y hy).2.2 with z | z
  ·exact absurd hl z
  ·exact z
theorem XJ {x:Str}{te:TE}{σ:St}{D:Addr}{Q:VK}{H:Hp}(hn:x.length<=Qi)(g:Nat->V)(hs:∀ c (H':Hp) (R:VK),c∈x.cps.toList->R (g c) H'->te (σ++[some (.str ⟨#[c]⟩)]) H' R)
 (hd:Q (.ref D) (upd H D (.lst (x.cps.toList.map g)))):Vs (Its x) te σ D Q H:=by
 refine ZeJ hn (fun i ys H'=>ys=(x.cps.toList.take i).map g/\H'=upd H D (.lst ys)/\i<=x.cps.size) ⟨rfl,rfl,Qp _⟩ ?_ ?_ ?_
 ·rintro i ys H' ⟨rfl,_,hi⟩
  rw [length_map,length_take]
  simp;omega
 ·rintro i c ys H' hc ⟨rfl,rfl,hi⟩
  have hc':x.cps.toList[i]?=some c:=by simpa using hc
  refine hs c _ _ (mem_of_getElem? hc') ⟨Ze,?_,ZlV,(GA.mp hc).1⟩
  rw [take_add_one,hc',map_append];rfl
 ·rintro ys H' ⟨rfl,rfl,_⟩
  rw [take_of_length_le (by simp)]
  exact hd
theorem Zcs:∀ (rest:List Str) (acc:Array Nat),(rest.foldl (fun acc p=>acc++(Qa "").cps++p.cps) acc).toList=acc.toList++rest.flatMap (·.cps.toList)
 | [],acc=>by simp
 | p::r,acc=>by
  have e:(Qa "").cps=#[]:=by decide +kernel
  rw [SK,Zcs r,flatMap_cons,e]
  simp
theorem UY:∀ ys:List Str,(QM (Qa "") ys).cps.toList=ys.flatMap (·.cps.toList)
 | []=>rfl
 | y::r=>by
  show (List.foldl (fun acc p=>acc++(Qa "").cps++p.cps) y.cps r).toList=_
  rw [Zcs];rfl
theorem Zq (x:Str):x.length=x.cps.toList.length:=by simp [Oo]
theorem ZZ {x y:Str}(h:x.cps.toList=y.cps.toList):x=y:=by
 cases x;cases y;simp at h;simp [h]
theorem Zjj (s e:Int)(i j:Nat)(hs:s=i)(he:e=j):Ro s e 1=(Gs (j - i)).map (i+·):=by
 subst hs he
 unfold Ro
 simp only [show (1:Int) > 0 by decide,if_true]
 have e3:(if (i:Int) < (j:Int) then ((j:Int) - i+1 - 1) / 1 else 0).toNat=j - i:=by
  split
  ·rw [Om];omega
  ·omega
 rw [e3]
 apply PQ
 intro k hk
 omega
theorem YY (z:Str)(lo hi:Option Int):(Qs z lo hi).cps.toList=(z.cps.toList.drop (HT.sIx z.length 0 lo)).take (HT.sIx z.length z.length hi - HT.sIx z.length 0 lo):=by
 have key:SW lo hi 1 z.length=(Gs (HT.sIx z.length z.length hi - HT.sIx z.length 0 lo)).map (HT.sIx z.length 0 lo+·):=by
  unfold SW
  refine Zjj _ _ _ _ ?_ ?_
  ·cases lo with
   | none=>rfl
   | some i=>simp only [HT.sIx,show (1:Int) > 0 by decide,if_true];split<;>omega
  ·cases hi with
   | none=>rfl
   | some i=>simp only [HT.sIx,show (1:Int) > 0 by decide,if_true];split<;>omega
 have hj:HT.sIx z.length z.length hi<=z.length:=HT.sIx_le _ _ (Qh _) hi
 unfold Qs
 rw [key]
 split
 ·rename_i h
  simp only [beq_self_eq_true,Bool.true_and,length_map,List.length_range,beq_iff_eq] at h
  have h0:HT.sIx z.length 0 lo=0\/z.length=0:=by omega
  rcases h0 with h0 | h0
  ·rw [h0] at h ⊢
   rw [drop_zero,h,Zq,take_length]
  ·have e:z.cps.toList=[]:=eq_nil_of_length_eq_zero (by rw [<- Zq];exact h0)
   rw [e];simp
 ·show (List.filterMap (fun k=>z.cps[k]?) ((Gs _).map _)).toArray.toList=_
  rw [Th]
  generalize HT.sIx z.length 0 lo=i at *
  generalize HT.sIx z.length z.length hi - i=n at *
  have gen:∀ (n i:Nat),List.filterMap ((fun k=>z.cps[k]?) ∘ (i+·)) (Gs n)=(z.cps.toList.drop i).take n:=by
   intro n
   induction n with
   | zero=>intro i;simp
   | succ n ih =>
    intro i
    rw [OB,Sc,ih,take_add_one,ND]
    congr 1
    simp only [filterMap_cons,List.filterMap_nil,Function.comp,Sd]
    cases z.cps[i+n]?<;>rfl
  rw [gen]
theorem Xl (x y:Str):(x++y).cps.toList=x.cps.toList++y.cps.toList:=by
 show (x.cps++y.cps).toList=_
 simp
theorem WV (x y:Str):(x++y).length=x.length+y.length:=by rw [Zq,Xl,length_append,<- Zq,<- Zq]
def US (c:Nat):Bool:=decide (97<=c)&&decide (c<=122)
def Yz (c:Nat):Bool:=decide (32<=c)&&decide (c<=126)
theorem ZfB (c d:Nat):decide ([c] < [d])=decide (c < d):=by
 simp [List.cons_lt_cons_iff]
theorem VI (f:Nat->Bool)(l:List Nat):l.map (fun c=>V.bl (f c))=(l.map f).map V.bl:=by rw [Ou];rfl
theorem Zii {X:Cx}{K:Qb}(hK:X.K=K):Xe X (.builtin "len") (fun xs H Q=>∃ x n,xs=[x]/\ZkY K x H n/\Q (.int n) H):=by subst hK;exact Zjz
@[reducible] def notStar:Expr->Bool
 | .Starred ..=>false
 | _=>true
theorem Zlx {e:Expr}{es:List Expr}{env:Env}(h:notStar e=true):QH (e::es) env=(false,eval e env)::QH es env:=by
 cases e<;>first | rfl | cases h
section
variable {X:Cx}{k:Nat}{x:Str}{ps:List Str}{sp:Sp}{p pos:Pos}{e:Expr}{es:List Expr}{te:TE}{t:TA}
theorem Wa (ha:PE X e te)(hr:PA X es t)(h:notStar e=true):PA X (e::es) (Xa te t):=YC ha hr (Zlx h)
theorem Zb (ha:PE X e te)(hr:PA X es t)(h:notStar e=true:=by rfl):PA X (e::es) (Xa te t):=YC ha hr (Zlx h)
end
section
variable {X:Cx}
theorem ZbG:Xi X (Pb .FloorDiv) (rI (fun _ j=>0 < j/\j < 2 ^ 62) fun i j=>.int (i / j)):=opI fun i j _ _ _ _ _ hc q=>by
 have h1:(0:Int) < j:=hc.1
 have h2:j < 2 ^ 62:=hc.2
 refine floordiv_int (by omega) (by rw [Pn i (by omega)];exact q) (.inl (PyProof.noPylong_of_log2 ?_))
 have h3:j.natAbs≠0:=by omega
 have h4:j.natAbs < 2 ^ 9000:=QB (show j.natAbs < 2 ^ 62 by omega) (Sz (by decide) (by decide))
 exact (Mz h3).mpr h4
end
section
variable {X:Cx}
end
section
variable {X:Cx}{tg:Expr}
end
section
variable {prog:Qm}{w:QC}{A:QK}{E:Qe->Qg->Prop}{s:Qg}
end
section
variable {prog:Qm}{w:QC}{A:QK}{E:Qe->Qg->Prop}{s:Qg}
theorem ZcN {T newId:String}{self a:Qe}{kw:List (Str×Qe)}(hl:GF (.type T) "__init__"=pure (some (.builtin "object.__init__")))
 (hm:Bind.madeBy (.type T)=pure (some newId)) (hne:(some newId != some "object.__new__")=true) :
 Meets (Tb.«object.__init__» ⟨[self,a],kw⟩) (fun _ R s=>s.TypeIs self T/\R (.ok (.ret .none)) s):=by
 refine Meets.of_wp fun prog w A R s hs=>?_
 obtain ⟨hT,hq⟩:=hs
 repeat (any_goals first | assumption | wp_step)
 exact ⟨_,rfl,hq⟩
theorem ZeK {T newId initId:String}{Bn Bi:Tb}{args:List Qe}{kw:List (Str×Qe)}{S:PySem.Spec}{Q Q₁:Qe->Qg->Prop}(ft:TypeCalled T newId initId)
 (hct:checkTypeCall T ⟨args,kw⟩=pure ()) (hcn:GX newId ⟨.type T::args,kw⟩=pure ())
 (entryN:entryFor table newId=some Bn) (entryI:entryFor table initId=some Bi) (g:Meets (Bn ⟨.type T::args,kw⟩) S) (h:S A.in1 (wants Q₁ E) s)
 (hnext:∀ obj s₁,Q₁ obj s₁->s₁.TypeIs obj T/\argsOk initId ⟨obj::args,kw⟩/\∃ Si,Meets (Bi ⟨obj::args,kw⟩) Si/\Si A.in1 (wants (fun r s₂=>r=.none/\Q obj s₂) E) s₁) :
 Qr (QA prog w) A (call (.type T) args kw) Q E s:=by
 obtain ⟨c,tl,hmro⟩:=ft.mro
 have q1:=ft.made
 have q2:=ft.sub
 refine Rl (ME (show Qr _ _ (callAny (.type T) _) _ _ _ from Qk ⟨Ti _ (by decide +kernel),MF F.entry_type_call ?_⟩))
 rw [Around.under_plain (weight_type_call_type T args kw) (units_type_call_type T args kw)]
 have q3:=ft.notType
 have q4:=ft.canCreate
 repeat (any_goals first | assumption | wp_step)
 refine JW (JA ft.plain entryN (wpAny_of_eq hcn (g prog w A.in1 _ s h))) fun r s₁ hr=>?_
 rcases r with e | fl
 ·exact hr
 ·cases fl with
  | ret obj =>
   obtain ⟨hT,hok,Si,gi,hsi⟩:=hnext _ _ hr
   have q5:=ft.init.lookup
   have q6:=ft.init.bind obj
   repeat (any_goals first | assumption | wp_step)
   refine JW (JA ft.init.plain entryI (ft.init.check _ _ _ _ _ _ _ _ hT hok (gi prog w A.in1 _ s₁ hsi))) fun r₂ s₂ hr₂=>?_
   rcases r₂ with e | fl₂
   ·exact hr₂
   ·cases fl₂ with
    | ret r =>
     obtain ⟨rfl,hq⟩:=hr₂
     repeat (any_goals first | assumption | wp_step)
    | _=>exact hr₂.elim
  | _=>exact hr.elim
theorem Zas (a b:Qe):checkTypeCall "enumerate" ⟨[a],[("start",b)]⟩=pure ():=by kernel_rfl
theorem ZaD (a b:Qe):GX "enumerate.__new__" ⟨[.type "enumerate",a],[("start",b)]⟩=pure ():=by kernel_rfl
theorem Zcg (o a b:Qe):argsOk "object.__init__" ⟨[o,a],[("start",b)]⟩:=by
 unfold argsOk
 rw [signature?_of (id:="object.__init__") (n:=['_','_','t','i','n','i','_','_']) (o:=['t','c','e','j','b','o']) (by kernel_rfl) F.owner_object]
 kernel_rfl
end
theorem Inv.turned2 {X:Cx}{pins:List (Addr×Obj)}{σ:St}{H:Hp}{s:Qg}{h':Heap}{t':Nat}{fp:List Addr}(I:Inv X pins σ H s)(k:∀ b o,b ∉ fp->s.heap.get? b=some o->h'.get? b=some o)(hf:∀ b∈fp,YM X pins H b) :
 Inv X pins σ H { s with heap:=h',toks:=t' }:=by
 have nit:∀ b u,H b=some u->b ∉ fp:=fun b u e z=>by rw [(hf b z).1] at e;cases e
 refine I.step (g':=s.gens) (d':=s.drawn) (ch:=fp) (fun b hb=>?_) (fun b o _ _ hc e _=>k b o hc e) (fun b o _ _ hc e _=>⟨o.slots,k b o hc e⟩) (fun _ _ _ _ n=>n)
  (fun b o hc e=>⟨o,k b o hc e⟩) (fun _ _ e=>e) (fun _ _ _ e=>e) (fun b ps e=>⟨#[],by rw [e];simp⟩) (fun m hm=>?_) (fun b u e=>?_) I.bare
 ·obtain ⟨f0,f1,f2,f3,f4,f5⟩:=hf b hb
  exact ⟨f3,f1,f4,f5⟩
 ·obtain ⟨o,es,ep,ho,r⟩:=hm
  exact ⟨o,es,ep,k _ o (fun z=>(hf _ z).2.1 rfl) ho,r⟩
 ·refine (I.hok b u e).stay (fun c v hc q=>k c v ?_ q) (fun _ q=>q) fun _ _ q=>q
  rcases hc with z | z
  ·rw [z];exact nit b u e
  ·exact nit c _ z
theorem ZbC {M:Rx}{A:QK}{E:Qe->Qg->Prop}{s:Qg}{pos:Pos}{T:String}{args:List (Bool×Sem Qe)}{kws:List (Option Str×Sem Qe)}{Q:Qe->Qg->Prop}
 (h1:args.any (·.1)=false) (h2:kws.any (·.1.isNone)=false)
 (h:Qr M A (evalArgs (.type T) true args kws) (fun a s₁=>Qr M A (call (.type T) a.pos a.kw) Q E s₁) E s):Qr M A (callWith pos (.type T) [] args kws) Q E s:=by
 unfold callWith
 refine Qd (GI (Zt h fun a s₁ q=>Qd (GC ?_)))
 simp only [h1,h2,RK]
 refine Qd (Qk (Qd (Zt q fun r s₂ hr=>?_)))
 exact Qd (GI (wpAny_point (Qk hr)))
section
variable {X:Cx}
end
end L2
namespace L2
open PySem PySem.W PySem.Spec PyProof.Rows
section
variable {prog:Qm}{w:QC}{A:QK}{E:Qe->Qg->Prop}{s:Qg}{a kS:Addr}{vs:List Qe}{ks:List Str}{keys:Array Qe}{e e1:Nat}{P:Nd->Qg->Prop}
end
def ZcH (base:Heap)(mg:Str->Option Qe):Prop:=∃ bm ob,mg "__builtins__"=some (.ref bm)/\bm≠Rh/\base.get? bm=some ob/\ob.cls=.type "module"/\ob.dict=some Rh/\ob.data=.plain
def ZgI (ts:List Addr)(H:Hp):Prop:=∀ b,H b=none\/(∃ o xs,H b=some (.frz o (.lst xs)))\/(H b=some (.tbl #[])/\b∈ts)
theorem ZiI {P:Qm}{w:QC}{K:Qb}{mg mb:Str->Option Qe}{CX:Vl}{k:Nat}{fa a:Addr}{fd:Qq}{x:Str}{sp:Sp}{s₁:Qg}{vs:List Qe}{ns:List Int}{ts:List Addr}
   (KX:K.In s₁.heap) (hns:s₁.heap.Ns Qx mg) (hb:s₁.heap.Ns Rh mb) (hbb:∀ x:Str,x≠"__name__"->mb x=Pu x) (hlim:s₁.heap.NoLimit) (hg:s₁.gens=#[]) (hbm:ZcH s₁.heap mg)
   (ha:s₁.heap.get? a=some { cls:=.type "list",data:=.seq vs.toArray }) (hi:MO vs ns) (hl:ns.length<=Qi) (hr:Room k Nc)
   (hts:∀ b∈ts,s₁.heap.get? b=some (tabObj #[])/\K.lookup b=none/\∃ c,CodeHd s₁.heap c b)
   (F:∀ base:Heap,K.In base->base.Ns Qx mg->ZcH base mg->FnOk P w K mg base CX k fa fd [x] sp) (hbind:∀ (s:Qg) (u:Qe),Oi s fd ⟨[u],[]⟩ [(x,u)])
   (hsp:∀ H:Hp,ZgI ts H->SqL K H a (ns.map V.int)->(∀ b∈ts,H b=some (.tbl #[]))->sp [.ref a] H (fun v _=>v=.bl true) fun _ _ _=>False)
   (hCX:∀ H e s',CX [] H s₁ (fun _ _ _=>False) e s'->False) :
   Pf (QA P w) Nc (.call (.ref fa) ⟨[.ref a],[]⟩) (fun r s'=>r=.ok (.ret (.bool true))/\OldK s₁.heap s'.heap/\s'.os=s₁.os/\SQ s'.gens) s₁:=by
 have rv:=Zdj hi
 have lenV:=hi.length
 have nta:a ∉ ts:=fun z=>by
   have e:=(hts a z).1
   rw [ha] at e;cases e
 have core : ∀ H:Hp,ZgI ts H->SqL K H a (ns.map V.int)->HOk P w H s₁.heap->(∀ b∈ts,H b=some (.tbl #[]))->(∀ b,H b≠none->b=a\/b∈ts)->(∀ b,H b≠none->K.lookup b=none) ->
     Pf (QA P w) Nc (.call (.ref fa) ⟨[.ref a],[]⟩) (fun r s'=>r=.ok (.ret (.bool true))/\OldK s₁.heap s'.heap/\s'.os=s₁.os/\SQ s'.gens) s₁:=by
   intro H hO hS hok hT hA hK
   have base_of:∀ {b:Addr} {o:Obj},s₁.heap.get? b=some o->H b=none->(Vx s₁.heap H).get? b=some o:=fun y n=>Zjw y n
   have free:∀ {b:Addr} {o:Obj},s₁.heap.get? b=some o->(∀ its n,o.data≠.seq its n)->(∀ fs,o.data≠.fields fs)->H b=none:=fun {b o} y d1 d2=>by
     cases q:H b with
     | none=>rfl
     | some u =>
       rcases hA b (by rw [q];simp) with z | z
       · subst z
         rw [ha] at y;cases y
         exact absurd rfl (d1 _ _)
       · rw [(hts b z).1] at y;cases y
         exact absurd rfl (d2 _)
   have nsK:∀ {b:Addr} {m:Str->Option Qe},s₁.heap.Ns b m->(Vx s₁.heap H).Ns b m:=fun {b m} ⟨o,es,ep,y,d,r⟩=>⟨o,es,ep,base_of y (free y (fun its n z=>by rw [d] at z;cases z) fun fs z=>by rw [d] at z;cases z),d,r⟩
   have hKb:K.In (Vx s₁.heap H):=fun b o y=>base_of (KX b o y) (by
     cases q:H b with
     | none=>rfl
     | some u=>rw [hK b (by rw [q];simp)] at y;cases y)
   have hBm:ZcH (Vx s₁.heap H) mg:=by
     obtain ⟨bm,ob,h1,h2,h3,h4,h5,h6⟩:=hbm
     exact ⟨bm,ob,h1,h2,base_of h3 (free h3 (fun its n z=>by rw [h6] at z;cases z) fun fs z=>by rw [h6] at z;cases z),h4,h5,h6⟩
   have hM:Mod K mg (Vx s₁.heap H):=⟨hKb,nsK hns,⟨mb,nsK hb,hbb⟩,let ⟨mc,h1,h2⟩:=hlim;⟨mc,nsK h1,h2⟩⟩
   have e0:Env0 P w K mg (Vx s₁.heap H) Nc [] s₁ H:=⟨rfl,hM,fun b o e=>Znd e,NV (ZiT _ _),trivial,fun b hb=>absurd (show b∈([]:List Addr) from hb) (by simp),hok,.of_eq hg⟩
   refine JW ((F _ hKb (nsK hns) hBm).run Nc [] s₁ H ⟨[.ref a],[]⟩ [.ref a] [.ref a] _ _ hr e0 (hbind s₁ (.ref a)) (.cons rfl .nil) (hsp H hO hS hT)) fun r s' h=>?_
   cases r with
   | error e=>exact (hCX H e s' h).elim
   | ok fl =>
     cases fl with
     | next=>exact Gh h
     | brk=>exact Gh h
     | cont=>exact Gh h
     | ret u =>
       obtain ⟨v,H',os,bare,un,hok',r',q⟩:=h
       have q':v=.bl true:=q
       subst q'
       obtain rfl:u=Rg true:=r'
       have key:∀ b o,s₁.heap.get? b=some o->s'.heap.get? b=some o\/(b∈ts/\∃ more:Array Qe,s'.heap.get? b=some (tabObj (#[]++more))):=fun b o y=>by
         cases q:H b with
         | none=>exact .inl (un.keep b o y q (by intro z;exact absurd (show b∈([]:List Addr) from z) (by simp)) (by simp))
         | some u =>
           rcases hO b with z | ⟨ob,xs,z⟩ | ⟨z,zt⟩
           · rw [q] at z;cases z
           · have z2:=un.frzs b ob _ z
             obtain ⟨e1,_⟩:=hok b _ z
             obtain ⟨e2,_⟩:=hok' b _ z2
             rw [y] at e1;cases e1
             exact .inl e2
           · obtain ⟨more,z2⟩:=un.tbls b #[] z
             exact .inr ⟨zt,more,show s'.heap.get? b=some { cls:=.none,data:=.fields (#[]++more) } from hok' b _ z2⟩
       refine ⟨rfl,⟨fun b o y=>?_,fun b o y=>?_⟩,os,bare⟩
       · rcases key b o y with z | ⟨zt,more,z⟩
         · exact .inl z
         · obtain ⟨t1,_,c,t3⟩:=hts b zt
           rw [t1] at y;cases y
           exact .inr (.inl ⟨(t3.tab t1).isCodeTable,rfl,#[],more,rfl,z⟩)
       · rcases key b o y with z | ⟨zt,more,z⟩
         · exact ⟨_,z⟩
         · exact ⟨_,z⟩
 have okT:∀ (H:Hp) (b:Addr),b∈ts->ObjOk P w H s₁.heap b (.tbl #[]):=fun H b hb=>(hts b hb).1
 cases hk:K.lookup a with
 | some o =>
   have e:=KX a o hk
   rw [ha] at e
   cases e
   refine core (fun b=>if b∈ts then some (.tbl #[]) else none) (fun b=>?_) (.inr ⟨_,vs.toArray,_,hk,rfl,rfl,rfl,by rw [size_toArray,lenV];exact hl,by simpa using rv⟩) (fun b u z=>?_) (fun b hb=>if_pos hb) (fun b z=>?_) (fun b z=>?_)
   · by_cases hb:b∈ts
     · exact .inr (.inr ⟨if_pos hb,hb⟩)
     · exact .inl (if_neg hb)
   · by_cases hb:b∈ts
     · have z':=(if_pos hb).symm.trans z
       cases z'
       exact okT _ b hb
     · have z':=(if_neg hb).symm.trans z
       cases z'
   · by_cases hb:b∈ts
     · exact .inr hb
     · exact absurd (if_neg hb) z
   · by_cases hb:b∈ts
     · exact (hts b hb).2.1
     · exact absurd (if_neg hb) z
 | none =>
   refine core (fun b=>if b=a then some (.frz { cls:=.type "list",data:=.seq vs.toArray } (.lst (ns.map V.int))) else if b∈ts then some (.tbl #[]) else none) (fun b=>?_) (.inl (.inr ⟨{ cls:=.type "list",data:=.seq vs.toArray },if_pos rfl⟩)) (fun b u z=>?_)
     (fun b hb=>(if_neg (fun z:b=a=>nta (by rw [<- z];exact hb))).trans (if_pos hb)) (fun b z=>?_) (fun b z=>?_)
   · by_cases h1:b=a
     · exact .inr (.inl ⟨_,_,if_pos h1⟩)
     · by_cases hb:b∈ts
       · exact .inr (.inr ⟨(if_neg h1).trans (if_pos hb),hb⟩)
       · exact .inl ((if_neg h1).trans (if_neg hb))
   · by_cases h1:b=a
     · have z':=(if_pos h1).symm.trans z
       cases z'
       subst h1
       exact ⟨ha,by rw [length_map];exact hl,vs,_,rv,ha⟩
     · have z1:=(if_neg h1).symm.trans z
       by_cases hb:b∈ts
       · have z':=(if_pos hb).symm.trans z1
         cases z'
         exact okT _ b hb
       · have z':=(if_neg hb).symm.trans z1
         cases z'
   · by_cases h1:b=a
     · exact .inl h1
     · by_cases hb:b∈ts
       · exact .inr hb
       · exact absurd ((if_neg h1).trans (if_neg hb)) z
   · by_cases h1:b=a
     · rw [h1];exact hk
     · by_cases hb:b∈ts
       · exact (hts b hb).2.1
       · exact absurd ((if_neg h1).trans (if_neg hb)) z
theorem walk_ofT {l:OC}{n k:Nat}{q:Qm}{loose:List Str}{XP:(Str->Option Qe)->Heap->Prop}{YP:QC->Heap->Prop}{d:DefRec}{K:Params->Qb}{CX:QC->Vl}{sp:QC->Sp}{x:Str}{ts:List Addr}
 (hn:l.most=some n) (hn2:n<=Qi) (hdf:d.params.defaults=[]) (hr:Room k Nc)
 (hY:∀ (w:QC) (h:Heap),YP w h->(K w.params).In h/\∀ b∈ts,h.get? b=some (tabObj #[]))
 (hK:∀ (w:QC) (b:Addr),b∈ts->(K w.params).lookup b=none/\∃ c,codeHdIn (K w.params) c b=true)
 (F:∀ (w:QC) (mg:Str->Option Qe) (fa:Addr) (h:Heap),(K w.params).In h->h.Ns Qx mg->mg d.name=some (.ref fa) ->
  ∃ fd:Qq,(∀ (s:Qg) (u:Qe),Oi s fd ⟨[u],[]⟩ [(x,u)]) /\
   ∀ base:Heap,(K w.params).In base->base.Ns Qx mg->ZcH base mg->FnOk l.prog w (K w.params) mg base (CX w) k fa fd [x] (sp w))
 (hsp:∀ (w:QC) (H:Hp) (a:Addr) (ns:List Int),ns.length<=n->ZgI ts H->SqL (K w.params) H a (ns.map V.int)->(∀ b∈ts,H b=some (.tbl #[]))->sp w [.ref a] H (fun v _=>v=.bl true) fun _ _ _=>False)
 (hCX:∀ (w:QC) (H:Hp) (s:Qg) (e:Qe) (s':Qg),CX w [] H s (fun _ _ _=>False) e s'->False) :
 PySem.W.WalkO q loose XP YP l.row.toRowW d [] (fun f vs=>PySem.call f vs):=by
 refine Att.attach_call hn hdf fun w s₀ s₁ mg mb fa o pm cd doc a vs ns G Y ho hd hcd hmg hobj hints hlen hg=>?_
 obtain ⟨KX,hT⟩:=hY w _ Y
 obtain ⟨fd,hb,hF⟩:=F w mg fa _ KX G.T.g hmg
 exact ZiI (ts:=ts) KX G.T.g G.T.b G.T.builtins G.T.nolimit hg G.T.bmain hobj hints (Qw hlen hn2) hr (fun b hb'=>⟨hT b hb',(hK w b hb').1,let ⟨c,hc⟩:=(hK w b hb').2;⟨c,codeHd_of_K KX hc⟩⟩) hF hb (fun H hO hS hTb=>hsp w H a ns hlen hO hS hTb) fun H e s'=>hCX w H s₁ e s'
section
variable {prog:Qm}{w:QC}{A:QK}{E:Qe->Qg->Prop}{s:Qg}
end
section
variable {X:Cx}{pins:List (Addr×Obj)}{σ:List (Option V)}{H:Hp}{s:Qg}{h':Heap}
end
section
variable {X:Cx}
end
section
variable {prog:Qm}{w:QC}{A:QK}{E:Qe->Qg->Prop}{s:Qg}
end
section
variable {prog:Qm}{w:QC}{A:QK}{R:Oh->Qg->Prop}
end
section
variable {prog:Qm}{w:QC}{A:QK}{E:Qe->Qg->Prop}{s:Qg}
end
section
variable {X:Cx}
end
section
variable {X:Cx}{pins:List (Addr×Obj)}{σ:List (Option V)}{H H':Hp}{s:Qg}{h':Heap}
end
section
variable {X:Cx}
end
section
variable {O:KeyOrd}{key:Nat->O.α}{n:Nat}{s:Qg}{cmp:Nat->Nat->(Bool->Qg->Prop)->Qg->Prop}
end
section
variable {P:Qm}{w:QC}{K:Qb}{mg:Str->Option Qe}{base:Heap}
end
theorem Zlr {X:Cx}{st:Stmt}:PS X st (fun _ _ _=>False):=fun _ _ _ _ _ _ h=>h.elim
structure TF (H H':Hp):Prop where
 tup:∀ b xs,H b=some (.tup xs)->H' b=some (.tup xs)
 frz:∀ b o u,H b=some (.frz o u)->H' b=some (.frz o u)
theorem TF.trans {H H1 H2:Hp}(a:TF H H1)(b:TF H1 H2):TF H H2:=⟨fun x xs h=>b.tup x xs (a.tup x xs h),fun x o u h=>b.frz x o u (a.frz x o u h)⟩
theorem Same.tf {H H':Hp}(h:Same H H'):TF H H':=⟨fun b _ e=>h b _ e,fun b _ _ e=>h b _ e⟩
theorem Zaz {H:Hp}{l:Addr}{xs:List V}{o:HO}(h:H l=some (.lst xs)):TF H (upd H l o) :=
 ⟨fun b _ y=>by rw [Zn (fun z=>by rw [z,h] at y;cases y)];exact y,fun b _ _ y=>by rw [Zn (fun z=>by rw [z,h] at y;cases y)];exact y⟩
theorem VB {H:Hp}{l:Addr}{xs:List (Ys×V)}{o:HO}(h:H l=some (.dK xs)):TF H (upd H l o) :=
 ⟨fun b _ y=>by rw [Zn (fun z=>by rw [z,h] at y;cases y)];exact y,fun b _ _ y=>by rw [Zn (fun z=>by rw [z,h] at y;cases y)];exact y⟩
theorem SqT.tf {K:Qb}{H H':Hp}{a:Addr}{xs:List V}(h:SqT K H a xs)(t:TF H H'):SqT K H' a xs:=by
 rcases h with (h | ⟨o,h⟩) | h
 ·exact .inl (.inl (t.tup _ _ h))
 ·exact .inl (.inr ⟨o,t.frz _ _ _ h⟩)
 ·exact .inr h
end L2
namespace L2
open PySem
def ZdP (J:It)(tc:TT)(te:TE)(σ:St)(D:Addr)(Q:VK)(H1:Hp):Prop :=
 ∃ W : Nat->Nat->List V->Hp->Prop,(∃ m,W 0 m [] (upd H1 D (.lst [])))/\∀ i m ys H2,W i m ys H2 ->
  (J.stop i H2/\Q (.ref D) H2)\/(J.go i H2/\∃ (N:VK) (M:Hp->Prop),(∀ y H4,N y H4->H4 D=some (.lst ys)/\ys.length < Qi/\∃ m',m' < m/\W (i+1) m' (ys++[y]) (upd H4 D (.lst (ys++[y]))))/\(∀ H4,M H4->∃ m',m' < m/\W (i+1) m' ys H4) /\
   ∀ v H3,J.yld i H2 v H3->tc (σ++[some v]) H3 fun b H4=>if b=true then te (σ++[some v]) H4 N else M H4)
def Zje (wi:TI)(tc:TT)(te:TE):TE:=fun σ H Q=>wi σ H fun J H1=>∀ D,H1 D=none->ZdP J tc te σ D Q H1
section
variable {X:Cx}{elt iter cnd:Expr}{x:Str}{px pos:Pos}{scope:Scope}{wi:TI}{te:TE}{tc:TT}
theorem Zae {prog:Qm}{w:QC}{A:QK}{R:Oh->Qg->Prop}{s:Qg}{elt target iter cnd:Expr}{scope:Scope}{pos:Pos}{it acc:Qe}{env:Env}(I:Nat->Qg->Prop)
   (turn : ∀ n s,I n s->Qr (QA prog w) A (Sj it) (fun r s₁=>match r with
     | none=>R (.ok .next) s₁
     | some v=>Qr (QA prog w) A (Ta target it v) (fun _ s1'=>Qr (QA prog w) A (Pk target env v) (fun _ s₂=>Qr (QA prog w) A (isTrue cnd env (eval cnd env)) (fun ok s2'=>if ok=true then Qr (QA prog w) A (eval elt env) (fun x s₃ =>
         Qr (QA prog w) A (call (.builtin "list.append") [acc,x]) (fun _ s₄=>∃ m,m < n/\I m s₄) (fun _ _=>False) s₃)
         (fun _ _=>False) s2' else ∃ m,m < n/\I m s2') (fun _ _=>False) s₂) (fun _ _=>False) s1') (fun _ _=>False) s₁) (fun _ _=>False) s)
   (n:Nat) (h:I n s) :
   Pf (QA prog w) A (.compLoop (.ListComp elt [⟨target,iter,[cnd],0⟩] scope pos) 0 it acc env) R s:=by
 refine codeAny_loop rfl I (fun n s hI=>?_) n h
 show Qr _ _ ((compTurn (.ListComp elt [⟨target,iter,[cnd],0⟩] scope pos) 0 it acc env).onRaise (fun x=>do Mn x env;MD x)) _ _ s
 refine wpAny_noted ?_
 rw [compTurn_list]
 refine Qd (GC (Qd (QY (turn n s hI) (fun r s₁ h₁=>?_) fun _ _ h'=>h'.elim)))
 cases r with
 | none=>exact Qk h₁
 | some v =>
   refine Qd (QY h₁ (fun _ s1' h1'=>?_) fun _ _ h'=>h'.elim)
   refine Qd (QY h1' (fun _ s₂ h₂=>Qd (wpAny_tests_one (QY h₂ (fun ok s₃ h₃=>?_) fun _ _ h'=>h'.elim))) fun _ _ h'=>h'.elim)
   cases ok with
   | false=>exact Qk ⟨rfl,h₃⟩
   | true =>
     exact Qd (Qd (QY h₃ (fun x s₄ h₄=>Qd (QY h₄ (fun _ s₅ h₅=>Qk (Qk ⟨rfl,h₅⟩)) fun _ _ h'=>h'.elim)) fun _ _ h'=>h'.elim))
theorem Zbh {pins:List (Addr×Obj)}{σ:St}{H2:Hp}{s₂:Qg}{J:It}{fp:List Addr}{it:Addr}{tn:Nat->Heap->Prop}{cl:List (Str×Addr)}{E:Qe->Qg->Prop}{Q:VK}{RR:Qe->Addr->Oh->Qg->Prop}
 (O:CompOk X scope x) (hc:X.calm=true) (cl1:∀ y c,cl.lookup y=some c->X.env.cells.lookup y=some c) (cl2:∀ y∈scope.names,y.2=.free->cl.lookup y.1≠none)
 (hcn:∀ cl C s₀ H₀ fp,PT (Yp X scope x cl C s₀ H₀ fp) cnd tc) (he:∀ cl C s₀ H₀ fp,PE (Yp X scope x cl C s₀ H₀ fp) elt te)
 (I2:Inv X pins σ H2 s₂) (T:Ub X.prog X.w X.K (.Name x px) J fp it tn) (st:tn 0 s₂.heap) (f2:∀ b∈fp,YM X pins H2 b)
 (h:∀ D,H2 D=none->ZdP J tc te σ D Q H2)
 (hRR:∀ D C H' s',Inv X pins σ H' s'->YM X pins H' C->(∃ m,s'.heap.Ns C m)->Q (.ref D) H'->RR (.ref D) C (.ok .next) s') :
 Qr (QA X.prog X.w) X.A (MQ []) (fun acc s₃=>Qr (QA X.prog X.w) X.A (OQ scope X.env.globals cl [] X.env.qual none .none (some X.env)) (fun cenv s₄ =>
  Pf (QA X.prog X.w) X.A (.compStart (.ListComp elt [⟨.Name x px,iter,[cnd],0⟩] scope pos) 0 (.ref it) acc { cenv with scope:=MP scope X.env }) (RR acc cenv.locals) s₄) E s₃) E s₂:=by
 have hD:H2 s₂.heap.objs.size=none:=I2.hok.fresh (Qh _)
 refine Gj ?_
 have I3:Inv X pins σ (upd H2 s₂.heap.objs.size (.lst [])) { s₂ with heap:=s₂.heap.push { cls:=.type "list",data:=.seq ([]:List Qe).toArray } } :=
  I2.laid (t':=s₂.toks) (fun b u e=>Qf _ e) (Qh _) ⟨Qp _,[],_,.nil,Qn _ rfl⟩
 have f3:∀ b∈fp,YM X pins (upd H2 s₂.heap.objs.size (.lst [])) b:=fun b hb=>by
  obtain ⟨g0,g1⟩:=f2 b hb
  obtain ⟨o,e,_⟩:=T.obj 0 _ st b hb
  exact ⟨by rw [Zn (Qt (Qj e))];exact g0,g1⟩
 have st3:tn 0 (s₂.heap.push { cls:=.type "list",data:=.seq ([]:List Qe).toArray }):=T.keep _ _ _ st fun b hb o e=>Qf _ e
 obtain ⟨W,⟨m0,w0⟩,turn⟩:=h _ hD
 generalize hDe:s₂.heap.objs.size=D at I3 f3 w0 turn ⊢
 generalize hH3:upd H2 D (.lst [])=H3 at I3 f3 w0 turn ⊢
 generalize hs3:({ s₂ with heap:=s₂.heap.push { cls:=.type "list",data:=.seq ([]:List Qe).toArray } }:Qg)=s₃ at I3
 have st3':tn 0 s₃.heap:=by rw [<- hs3];exact st3
 have hobj:∀ b∈fp,b < s₃.heap.objs.size:=fun b hb=>by
  obtain ⟨o,e,_⟩:=T.obj 0 _ st3' b hb
  exact Qj e
 refine Po O.cell (by intro y hy;simp at hy) (fun h₁ hns₁ hsb₁=>?_) O.kind
 have old:∀ b o,s₃.heap.get? b=some o->h₁.get? b=some o:=fun b o e=>hsb₁.extBut b o (Qt (Qj e)) (Qf _ e)
 generalize hs4:({ s₃ with heap:=h₁,toks:=s₃.toks+([]:List (Str×Qe)).length }:Qg)=s₄
 have h4:s₄.heap=h₁:=by rw [<- hs4]
 have hX:∀ C,YM X pins C s₃.heap.objs.size->True:=fun _ _=>trivial
 have ok':(Yp X scope x cl s₃.heap.objs.size s₃ H3 fp).Ok:=by
  refine ⟨I3.ok.mod,O.kind,I3.ok.glob,I3.ok.blt,Qh _,?_,?_,?_,I3.ok.hd,I3.ok.frames,.inl rfl,?_,I3.bs,Qw I3.ok.bsz I3.sz,?_,?_,I3.stack,I3.stkFree⟩
  ·exact fun y z c e1 e2=>I3.ok.inj y z c (cl1 y c e1) (cl1 z c e2)
  ·intro y hk
   have hf:scope.names.lookup y=some .free:=by
    rcases hk with hk | hk
    ·rcases ZK O.cell hk with q | q
     ·exact absurd rfl (O.cell _ (mem_of_lookup q))
     ·exact q.1
    ·rcases ZK O.cell hk with q | q
     ·exact q
     ·cases q.2
   have:=cl2 _ (mem_of_lookup hf) rfl
   cases e:cl.lookup y with
   | none=>exact absurd e this
   | some c=>exact ⟨c,e⟩
  ·intro y c hf;cases hf
  ·intro b hb
   obtain ⟨g0,g1,g2,g3,g4,g5⟩:=f3 b hb
   exact ⟨Qt (hobj b hb),fun y c e=>g4 y c (cl1 y c e)⟩
  ·intro b o e hb
   obtain ⟨g0,g1,g2,g3,g4,g5⟩:=f3 b hb
   rcases g3 with g3 | g3
   ·exact I3.ok.noex b o e g3
   ·exact absurd (Qj e) (JJ.mpr (Qw I3.ok.bsz g3))
  ·intro b hb hs
   obtain ⟨g0,g1,g2,g3,g4,g5⟩:=f3 b hb
   rcases mem_cons.mp (I3.stkSub b hs) with e | e
   ·exact g1 e
   ·exact g2 e
 have I4 : Inv (Yp X scope x cl s₃.heap.objs.size s₃ H3 fp) [] (σ++[none]) H3 s₄:=by
  obtain ⟨m,hm,hl⟩:=I3.loc
  refine ⟨ok',by rw [<- hs4];rfl,by rw [<- hs4];exact I3.bare,by rw [h4];exact Un.kept old,⟨_,by rw [h4];exact hns₁,?_⟩,?_,I3.hok.fresh (Qh _),fun y c e=>I3.freeC y c (cl1 y c e),?_,by rw [h4];exact I3.hok.kept old,?_⟩
  ·intro i y v e1 e2 e3
   have hlt:i < σ.length:=by
    rcases NT i σ.length with z | z
    ·exact z
    ·rw [getElem?_append_right z] at e2
     cases e:i - σ.length with
     | zero=>rw [e] at e2;simp at e2
     | succ k=>rw [e] at e2;simp at e2
   rw [getElem?_append_left hlt] at e2
   have hsm:∃ k,scope.names.lookup y=some k:=by
    rcases e3 with hk | hk | hk
    ·rcases ZK O.cell hk with q | q
     ·exact ⟨_,q⟩
     ·exact ⟨_,q.1⟩
    ·rcases ZK O.cell hk with q | q
     ·exact ⟨_,q⟩
     ·exact ⟨_,q.1⟩
    ·rcases ZK O.cell hk with q | q
     ·exact ⟨_,q⟩
     ·exact ⟨_,q.1⟩
   obtain ⟨e1',hyx⟩:X.N[i]?=some y/\y≠x:=by
    have e1:(Ur X.N x++[x])[i]?=some y:=e1
    rw [getElem?_append_left (by rw [WX,<- I3.len];exact hlt)] at e1
    rcases Zba e1 with z | z
    ·exact z
    ·obtain ⟨k,hk⟩:=hsm
     rw [z,O.noh] at hk;cases hk
   have hy:y∈X.N:=mem_of_getElem? e1'
   have hf:scope.names.lookup y=some .free:=by
    rcases e3 with hk | hk | hk
    ·rcases ZK O.cell hk with q | q
     ·exact absurd q (O.own y hy hyx)
     ·exact q.1
    ·rcases ZK O.cell hk with q | q
     ·exact absurd rfl (O.cell _ (mem_of_lookup q))
     ·exact q.1
    ·rcases ZK O.cell hk with q | q
     ·exact q
     ·exact q.1
   have hk:=O.clos _ (mem_of_lookup hf) rfl
   have hv:Vis X.env.scope y:=by rcases hk with z | z;exact .inr (.inl z);exact .inr (.inr z)
   obtain ⟨u,ru,lu⟩:=hl i y v e1' e2 hv
   refine ⟨u,ru,?_⟩
   have hkc:(TC scope cl s₃.heap.objs.size X.env).kindOf y=some .cell\/(TC scope cl s₃.heap.objs.size X.env).kindOf y=some .free:=by
    rcases e3 with q | q | q
    ·rcases ZK O.cell q with z | z
     ·exact absurd z (O.own y hy hyx)
     ·cases z.2
    ·exact .inl q
    ·exact .inr q
   rcases lu with ⟨q,_⟩ | ⟨_,c,hcl,hcc⟩
   ·rcases hk with z | z<;>(rw [q] at z;cases z)
   ·refine .inr ⟨hkc,?_⟩
    cases e:cl.lookup y with
    | none=>exact absurd e (cl2 _ (mem_of_lookup hf) rfl)
    | some c' =>
     have:=cl1 y c' e
     rw [hcl] at this
     cases this
     refine ⟨c,e,?_⟩
     rw [h4]
     obtain ⟨oc,ho,hd⟩:=hcc
     exact ⟨oc,old _ _ ho,hd⟩
  ·intro y c e
   obtain ⟨v,oc,ho,hd⟩:=I3.cell y c (cl1 y c e)
   exact ⟨v,oc,by rw [h4];exact old _ _ ho,hd⟩
  ·intro p hp;cases hp
  ·show (σ++[none]).length=(Ur X.N x++[x]).length
   rw [length_append,length_append,WX,I3.len];rfl
 have st4:tn 0 s₄.heap:=by rw [h4];exact T.keep _ _ _ st3' fun b hb o e=>old b o e
 have fpok:∀ {H':Hp},(∀ b∈fp,H' b=none)->∀ b∈fp,YM (Yp X scope x cl s₃.heap.objs.size s₃ H3 fp) [] H' b:=fun hn b hb=>by
  obtain ⟨g0,g1,g2,g3,g4,g5⟩:=f3 b hb
  refine ⟨hn b hb,Qt (hobj b hb),ok'.exfs b hb,.inl hb,fun y c e=>g4 y c (cl1 y c e),?_⟩
  intro p hp;cases hp
 have loop:Pf (QA X.prog X.w) X.A (.compLoop (.ListComp elt [⟨.Name x px,iter,[cnd],0⟩] scope pos) 0 (.ref it) (.ref D) (TC scope cl s₃.heap.objs.size X.env)) (RR (.ref D) s₃.heap.objs.size) s₄:=by
  refine Zae (fun n s'=>∃ i ys w' H',Inv (Yp X scope x cl s₃.heap.objs.size s₃ H3 fp) [] (σ++[w']) H' s'/\tn i s'.heap/\(∀ b∈fp,H' b=none)/\W i n ys H') ?_ m0 ⟨0,[],none,H3,I4,st4,fun b hb=>(f3 b hb).1,w0⟩
  rintro n s5 ⟨i,ys,w',H5,I5,st5,fr5,w5⟩
  rcases turn i n ys H5 w5 with ⟨stop,q⟩ | ⟨go,N,M,hN,hM,step⟩
  ·refine Zt (T.done (Yp X scope x cl s₃.heap.objs.size s₃ H3 fp) rfl rfl rfl hc i [] s5 _ H5 _ I5 (fpok fr5) st5 stop) fun r s6 ⟨hr,I6⟩=>?_
   subst hr
   obtain ⟨m6,hn6,_⟩:=I6.loc
   have IX:Inv X pins σ H5 s6:=I3.call' (ch:=fp) I6.os I6.base I6.hok I6.bare fun b hb=>by
    obtain ⟨g0,g1,g2,g3,g4,g5⟩:=f3 b hb
    exact ⟨g3,g1,g4,g5⟩
   exact hRR D _ H5 s6 IX (I3.fpOk (Qh _) I6.free) ⟨m6,hn6⟩ q
  ·refine Zt (T.item (Yp X scope x cl s₃.heap.objs.size s₃ H3 fp) rfl rfl rfl hc i [] s5 _ H5 _ I5 (fpok fr5) st5 go) fun r s6 ⟨u,hr,h6⟩=>?_
   subst hr
   refine Zt h6 fun _ s7 ⟨v,H7,I7,r7,y7,st7,fr7⟩=>?_
   have I7':=I7.pinned (fpok fr7) (T.obj _ _ st7)
   have hixN:(Yp X scope x cl s₃.heap.objs.size s₃ H3 fp).N[σ.length]?=some x:=by
    show (Ur X.N x++[x])[σ.length]?=some x
    rw [I3.len,<- WX X.N x];simp
   refine Zt (ZM (X:=Yp X scope x cl s₃.heap.objs.size s₃ H3 fp) (pos:=px) O.nd hixN (.inl (Pp O.loc)) (.inr (Pp O.loc)) _ s7 _ H7 v u (fun σ' H'=>σ'=σ++[some v]/\H'=H7) I7' r7 ⟨by simp,rfl⟩) fun _ s8 ⟨σ8,H8,I8,e8,e8'⟩=>?_
   subst e8 e8'
   refine Zt (hcn cl s₃.heap.objs.size s₃ H3 fp _ s8 _ H8 _ I8 (step v H8 y7)) fun bb s8b ⟨H8b,I8b,q8b⟩=>?_
   cases bb with
   | false =>
    obtain ⟨m',hm',w9⟩:=hM H8b q8b
    refine ⟨m',hm',i+1,ys,some v,_,I8b.unpinned (pins:=[]),T.keep _ _ _ st7 fun b hb o e=>(I8b.pin (b,o) (mem_append_right _ (mem_append_right _ (Xc hb e)))).1,fun b hb=>?_,w9⟩
    obtain ⟨o,e,d⟩:=T.obj _ _ st7 b hb
    exact (I8b.pin (b,o) (mem_append_right _ (mem_append_right _ (Xc hb e)))).2.1
   | true =>
    refine Zt (he cl s₃.heap.objs.size s₃ H3 fp _ s8b _ H8b _ I8b q8b) fun uy s9 ⟨y,H9,I9,r9,n9⟩=>?_
    obtain ⟨hl9,hz9,m',hm',w9⟩:=hN y H9 n9
    refine Zt (YG (X:=Yp X scope x cl s₃.heap.objs.size s₃ H3 fp) _ s9 _ H9 (.ref D) [y] (.ref D) [uy] (fun v H'=>H'=upd H9 D (.lst (ys++[y]))) I9 rfl (.cons r9 .nil) ⟨D,ys,y,rfl,rfl,hl9,hz9,rfl⟩) fun _ s10 ⟨_,H10,I10,_,e10⟩=>?_
    subst e10
    refine ⟨m',hm',i+1,ys++[y],some v,_,I10.unpinned (pins:=[]),T.keep _ _ _ st7 fun b hb o e=>(I10.pin (b,o) (mem_append_right _ (mem_append_right _ (Xc hb e)))).1,fun b hb=>?_,w9⟩
    obtain ⟨o,e,d⟩:=T.obj _ _ st7 b hb
    exact (I10.pin (b,o) (mem_append_right _ (mem_append_right _ (Xc hb e)))).2.1
 exact TD loop (T.self _ 0 _ _ _ st4 loop)
theorem Zep (O:CompOk X scope x)(hc:X.calm=true)(hi:PI X (.Name x px) iter wi)(hcn:∀ cl C s₀ H₀ fp,PT (Yp X scope x cl C s₀ H₀ fp) cnd tc)(he:∀ cl C s₀ H₀ fp,PE (Yp X scope x cl C s₀ H₀ fp) elt te)
 (hs:∀ v,Jw iter X.env v=pure v:=by intro _;rfl):PE X (.ListComp elt [⟨.Name x px,iter,[cnd],0⟩] scope pos) (Zje wi tc te):=by
 intro pins s σ H Q I h
 obtain ⟨cl,hcl,cl1,cl2⟩:=Uj (scope:=scope) (env:=X.env) fun y hy hf=>I.ok.has _ (O.clos y hy hf)
 rw [Nr]
 refine GZ (use:=none) rfl hs hcl O.kind O.names (Zt (hi pins s σ H _ I h) fun v s1 h1=>Zt h1 fun itv s2 h2=>?_)
 obtain ⟨it,fp,tn,J,H2,e,I2,T,st2,f2,q⟩:=h2
 subst e
 refine Zbh (RR:=fun acc C=>NU (QA X.prog X.w) X.A X.xe none (EP X pins σ Q) acc C) O hc cl1 cl2 hcn he I2 T st2 f2 q ?_
 intro D C H' s' I' ⟨g0,g1,g2,g3,g4,g5⟩ ⟨m,hm⟩ hq
 exact ⟨m,hm,fun h' hs'=>⟨.ref D,H',I'.turned (t':=s'.toks) (fun b o hb e=>(hs'.2 b hb).trans e) g0 g1 g3 g4 g5,rfl,hq⟩⟩
theorem Zff {i:Nat}{y:Str}{py spos:Pos}(O:CompOk X scope x)(hc:X.calm=true)(hN:X.N.Nodup)(hiN:X.N[i]?=some y)(hy:Loc X.env.scope y)(hi:PI X (.Name x px) iter wi)(hcn:∀ cl C s₀ H₀ fp,PT (Yp X scope x cl C s₀ H₀ fp) cnd tc)(he:∀ cl C s₀ H₀ fp,PE (Yp X scope x cl C s₀ H₀ fp) elt te)
 (hsw:Rf (.ListComp elt [⟨.Name x px,iter,[cnd],0⟩] scope pos) (some (.Name y py)) spos.line X.env=pure true) (hf:X.fn y=true\/X.env.scope.names.lookup y=some .local:=by first | exact .inl rfl | exact .inr rfl | assumption)
 (hs:∀ v,Jw iter X.env v=pure v:=by intro _;rfl):PS X (.Assign [.Name y py] (.ListComp elt [⟨.Name x px,iter,[cnd],0⟩] scope pos) spos) (ZdU (Zje wi tc te) (Zah i)):=by
 intro pins s σ H D I h
 obtain ⟨cl,hcl,cl1,cl2⟩:=Uj (scope:=scope) (env:=X.env) fun y hy hf=>I.ok.has _ (O.clos y hy hf)
 rw [OH _ _ _ _ hsw]
 refine Qd (GC (Qd ?_))
 show Qr _ X.A (do let _ <- comprehension (.ListComp elt [⟨.Name x px,iter,[cnd],0⟩] scope pos) scope X.env _ (MQ []) false (eval iter X.env) (some (Pk (.Name y py) X.env))) _ _ s
 refine Qd (QY (GZ (use:=some (Pk (.Name y py) X.env)) (Q:=fun _ s'=>SP X pins D .next s') rfl hs hcl O.kind O.names
  (Zt (hi pins s σ H _ I h) fun v s1 h1=>Zt h1 fun itv s2 h2=>?_)) (fun _ s' hq=>Qk (Qk hq)) fun _ _ e=>e)
 obtain ⟨it,fp,tn,J,H2,e,I2,T,st2,f2,q⟩:=h2
 subst e
 refine Zbh (RR:=fun acc C=>NU (QA X.prog X.w) X.A X.xe (some (Pk (.Name y py) X.env)) (fun _ s'=>SP X pins D .next s') acc C) O hc cl1 cl2 hcn he I2 T st2 f2 q ?_
 intro Dl C H' s' I' ⟨g0,g1,g2,g3,g4,g5⟩ ⟨m,hm⟩ hq
 show Qr _ X.A (Pk (.Name y py) X.env (.ref Dl)) _ _ _
 refine Ry (ZaA I' hN hiN hy (v:=.ref Dl) rfl (fun s'' I'' ⟨a,sb,ha⟩=>?_) hf)
 have haC:C≠a:=by
  rcases ha with z | z
  ·rw [z];exact g1
  ·exact fun z'=>g4 y a z z'.symm
 exact ⟨m,hm.sameBut sb haC,fun h' hs'=>⟨_,H',I''.turned (t':=s''.toks) (fun b o hb e=>(hs'.2 b hb).trans e) g0 g1 g3 g4 g5,hq⟩⟩
end
theorem Zdo {K:Qb}{a:Addr}{xs:List V}{tc:TT}{te:TE}{σ:St}{D:Addr}{Q:VK}{H:Hp}(hn:xs.length<=Qi)(Pv:Nat->List V->Hp->Prop)(h0:Pv 0 [] (upd H D (.lst [])))
 (hl:∀ i ys H,Pv i ys H->ys.length<=i/\SqT K H a xs)
 (hs:∀ i x ys H,xs[i]?=some x->Pv i ys H->tc (σ++[some x]) H fun b H3=>if b=true then te (σ++[some x]) H3 fun y H4=>H4 D=some (.lst ys)/\Pv (i+1) (ys++[y]) (upd H4 D (.lst (ys++[y]))) else Pv (i+1) ys H3) (hd:∀ ys H,Pv xs.length ys H->Q (.ref D) H):ZdP (Itt K a) tc te σ D Q H:=by
 refine ⟨fun i m ys H=>m=xs.length - i/\i<=xs.length/\Pv i ys H,⟨xs.length,by simp,Qp _,h0⟩,?_⟩
 rintro i m ys H2 ⟨rfl,hi,p⟩
 obtain ⟨hlen,q⟩:=hl i ys _ p
 by_cases hlt:i < xs.length
 ·refine .inr ⟨⟨xs,xs[i],q,by simp [hlt]⟩,_,_,fun y H4 (q:H4 D=some (.lst ys)/\Pv (i+1) (ys++[y]) (upd H4 D (.lst (ys++[y]))))=>⟨q.1,by omega,xs.length - (i+1),by omega,rfl,hlt,q.2⟩,fun H4 (q:Pv (i+1) ys H4)=>⟨xs.length - (i+1),by omega,rfl,hlt,q⟩,fun v H3 y=>?_⟩
  obtain ⟨e,y⟩:=y
  subst e
  exact hs i v ys _ (y xs q) p
 ·have e:i=xs.length:=by omega
  subst e
  exact .inl ⟨⟨xs,q,Qh _⟩,hd ys H2 p⟩
theorem ZgQ {K:Qb}{a:Addr}{xs:List V}{tc:TT}{te:TE}{σ:St}{D:Addr}{Q:VK}{H:Hp}(hn:xs.length<=Qi)(Pv:Nat->List V->Hp->Prop)(h0:Pv 0 [] (upd H D (.lst [])))
 (hl:∀ i ys H,Pv i ys H->ys.length<=i/\SqL K H a xs)
 (hs:∀ i x ys H,xs[i]?=some x->Pv i ys H->tc (σ++[some x]) H fun b H3=>if b=true then te (σ++[some x]) H3 fun y H4=>H4 D=some (.lst ys)/\Pv (i+1) (ys++[y]) (upd H4 D (.lst (ys++[y]))) else Pv (i+1) ys H3) (hd:∀ ys H,Pv xs.length ys H->Q (.ref D) H):ZdP (Itl K a) tc te σ D Q H:=by
 refine ⟨fun i m ys H=>m=xs.length - i/\i<=xs.length/\Pv i ys H,⟨xs.length,by simp,Qp _,h0⟩,?_⟩
 rintro i m ys H2 ⟨rfl,hi,p⟩
 obtain ⟨hlen,q⟩:=hl i ys _ p
 by_cases hlt:i < xs.length
 ·refine .inr ⟨⟨xs,xs[i],q,by simp [hlt]⟩,_,_,fun y H4 (q:H4 D=some (.lst ys)/\Pv (i+1) (ys++[y]) (upd H4 D (.lst (ys++[y]))))=>⟨q.1,by omega,xs.length - (i+1),by omega,rfl,hlt,q.2⟩,fun H4 (q:Pv (i+1) ys H4)=>⟨xs.length - (i+1),by omega,rfl,hlt,q⟩,fun v H3 y=>?_⟩
  obtain ⟨e,y⟩:=y
  subst e
  exact hs i v ys _ (y xs q) p
 ·have e:i=xs.length:=by omega
  subst e
  exact .inl ⟨⟨xs,q,Qh _⟩,hd ys H2 p⟩
end L2
namespace L2
open PySem PySem.Spec PyProof.Rows
def UR (N:List Str)(xa xb:Str):List Str:=Ur (Ur N xa) xb
theorem ZeD (N:List Str)(xa xb:Str):(UR N xa xb).length=N.length:=by unfold UR;rw [WX,WX]
theorem ZjH {N:List Str}{xa xb y:Str}{i:Nat}(h:(UR N xa xb)[i]?=some y):(N[i]?=some y/\¬ (y=xa\/y=xb))\/y="":=by
 rcases Zba h with ⟨h1,h2⟩ | h1
 ·rcases Zba h1 with ⟨h3,h4⟩ | h3
  ·exact .inl ⟨h3,fun z=>z.elim h4 h2⟩
  ·exact .inr h3
 ·exact .inr h1
def Xo (X:Cx)(scope:Scope)(xa xb:Str)(cl:List (Str×Addr))(C:Addr)(s₀:Qg)(H₀:Hp)(fp:List Addr):Cx:={ Yp X scope xa cl C s₀ H₀ fp with N:=UR X.N xa xb++[xa,xb] }
structure CompOkT (X:Cx)(scope:Scope)(xa xb:Str):Prop where
 nd:(UR X.N xa xb++[xa,xb]).Nodup
 clos:∀ y∈scope.names,y.2=.free->X.env.kindOf y.1=some .cell\/X.env.kindOf y.1=some .free
 cell:∀ y∈scope.names,y.2≠.cell
 kind:scope.kind=.function
 names:∀ y∈scope.names,y.2=.local->scope.names.lookup y.1=some .local
 own:∀ y∈X.N,¬ (y=xa\/y=xb)->scope.names.lookup y≠some .local
 noh:scope.names.lookup ("":Str)=none
def ZdQ (J:It)(g:TG)(te:TE)(σ:St)(D:Addr)(Q:VK)(H1:Hp):Prop :=
 ∃ W:Nat->Nat->List V->Hp->Prop,(∃ m,W 0 m [] (upd H1 D (.lst [])))/\∀ i m ys H2,W i m ys H2 ->
  (J.stop i H2/\Q (.ref D) H2)\/(J.go i H2/\∃ N:VK,(∀ y H4,N y H4->H4 D=some (.lst ys)/\ys.length < Qi/\∃ m',m' < m/\W (i+1) m' (ys++[y]) (upd H4 D (.lst (ys++[y]))))/\∀ wa wb v H3,J.yld i H2 v H3->g v (σ++[wa,wb]) H3 fun σ' H'=>(∃ wa wb,σ'=σ++[wa,wb])/\te σ' H' N)
def ZiD (wi:TI)(g:TG)(te:TE):TE:=fun σ H Q=>wi σ H fun J H1=>∀ D,H1 D=none->ZdQ J g te σ D Q H1
section
variable {X:Cx}{elt iter tg:Expr}{xa xb:Str}{pos:Pos}{scope:Scope}{wi:TI}{te:TE}{g:TG}
theorem Zbf {pins:List (Addr×Obj)}{σ:St}{H2:Hp}{s₂:Qg}{J:It}{fp:List Addr}{it:Addr}{tn:Nat->Heap->Prop}{cl:List (Str×Addr)}{E:Qe->Qg->Prop}{Q:VK}{RR:Qe->Addr->Oh->Qg->Prop}
 (O:CompOkT X scope xa xb) (hc:X.calm=true) (cl1:∀ y c,cl.lookup y=some c->X.env.cells.lookup y=some c) (cl2:∀ y∈scope.names,y.2=.free->cl.lookup y.1≠none)
 (hg:∀ cl C s₀ H₀ fp,PG (Xo X scope xa xb cl C s₀ H₀ fp) tg g) (he:∀ cl C s₀ H₀ fp,PE (Xo X scope xa xb cl C s₀ H₀ fp) elt te)
 (I2:Inv X pins σ H2 s₂) (T:Ub X.prog X.w X.K tg J fp it tn) (st:tn 0 s₂.heap) (f2:∀ b∈fp,YM X pins H2 b)
 (h:∀ D,H2 D=none->ZdQ J g te σ D Q H2)
 (hRR:∀ D C H' s',Inv X pins σ H' s'->YM X pins H' C->(∃ m,s'.heap.Ns C m)->Q (.ref D) H'->RR (.ref D) C (.ok .next) s') :
 Qr (QA X.prog X.w) X.A (MQ []) (fun acc s₃=>Qr (QA X.prog X.w) X.A (OQ scope X.env.globals cl [] X.env.qual none .none (some X.env)) (fun cenv s₄ =>
  Pf (QA X.prog X.w) X.A (.compStart (.ListComp elt [⟨tg,iter,[],0⟩] scope pos) 0 (.ref it) acc { cenv with scope:=MP scope X.env }) (RR acc cenv.locals) s₄) E s₃) E s₂:=by
 have hD:H2 s₂.heap.objs.size=none:=I2.hok.fresh (Qh _)
 refine Gj ?_
 have I3:Inv X pins σ (upd H2 s₂.heap.objs.size (.lst [])) { s₂ with heap:=s₂.heap.push { cls:=.type "list",data:=.seq ([]:List Qe).toArray } } :=
  I2.laid (t':=s₂.toks) (fun b u e=>Qf _ e) (Qh _) ⟨Qp _,[],_,.nil,Qn _ rfl⟩
 have f3:∀ b∈fp,YM X pins (upd H2 s₂.heap.objs.size (.lst [])) b:=fun b hb=>by
  obtain ⟨g0,g1⟩:=f2 b hb
  obtain ⟨o,e,_⟩:=T.obj 0 _ st b hb
  exact ⟨by rw [Zn (Qt (Qj e))];exact g0,g1⟩
 have st3:tn 0 (s₂.heap.push { cls:=.type "list",data:=.seq ([]:List Qe).toArray }):=T.keep _ _ _ st fun b hb o e=>Qf _ e
 obtain ⟨W,⟨m0,w0⟩,turn⟩:=h _ hD
 generalize hDe:s₂.heap.objs.size=D at I3 f3 w0 turn ⊢
 generalize hH3:upd H2 D (.lst [])=H3 at I3 f3 w0 turn ⊢
 generalize hs3:({ s₂ with heap:=s₂.heap.push { cls:=.type "list",data:=.seq ([]:List Qe).toArray } }:Qg)=s₃ at I3
 have st3':tn 0 s₃.heap:=by rw [<- hs3];exact st3
 have hobj:∀ b∈fp,b < s₃.heap.objs.size:=fun b hb=>by
  obtain ⟨o,e,_⟩:=T.obj 0 _ st3' b hb
  exact Qj e
 refine Po O.cell (by intro y hy;simp at hy) (fun h₁ hns₁ hsb₁=>?_) O.kind
 have old:∀ b o,s₃.heap.get? b=some o->h₁.get? b=some o:=fun b o e=>hsb₁.extBut b o (Qt (Qj e)) (Qf _ e)
 generalize hs4:({ s₃ with heap:=h₁,toks:=s₃.toks+([]:List (Str×Qe)).length }:Qg)=s₄
 have h4:s₄.heap=h₁:=by rw [<- hs4]
 have hX:∀ C,YM X pins C s₃.heap.objs.size->True:=fun _ _=>trivial
 have ok':(Xo X scope xa xb cl s₃.heap.objs.size s₃ H3 fp).Ok:=by
  refine ⟨I3.ok.mod,O.kind,I3.ok.glob,I3.ok.blt,Qh _,?_,?_,?_,I3.ok.hd,I3.ok.frames,.inl rfl,?_,I3.bs,Qw I3.ok.bsz I3.sz,?_,?_,I3.stack,I3.stkFree⟩
  ·exact fun y z c e1 e2=>I3.ok.inj y z c (cl1 y c e1) (cl1 z c e2)
  ·intro y hk
   have hf:scope.names.lookup y=some .free:=by
    rcases hk with hk | hk
    ·rcases ZK O.cell hk with q | q
     ·exact absurd rfl (O.cell _ (mem_of_lookup q))
     ·exact q.1
    ·rcases ZK O.cell hk with q | q
     ·exact q
     ·cases q.2
   have:=cl2 _ (mem_of_lookup hf) rfl
   cases e:cl.lookup y with
   | none=>exact absurd e this
   | some c=>exact ⟨c,e⟩
  ·intro y c hf;cases hf
  ·intro b hb
   obtain ⟨g0,g1,g2,g3,g4,g5⟩:=f3 b hb
   exact ⟨Qt (hobj b hb),fun y c e=>g4 y c (cl1 y c e)⟩
  ·intro b o e hb
   obtain ⟨g0,g1,g2,g3,g4,g5⟩:=f3 b hb
   rcases g3 with g3 | g3
   ·exact I3.ok.noex b o e g3
   ·exact absurd (Qj e) (JJ.mpr (Qw I3.ok.bsz g3))
  ·intro b hb hs
   obtain ⟨g0,g1,g2,g3,g4,g5⟩:=f3 b hb
   rcases mem_cons.mp (I3.stkSub b hs) with e | e
   ·exact g1 e
   ·exact g2 e
 have I4 : Inv (Xo X scope xa xb cl s₃.heap.objs.size s₃ H3 fp) [] (σ++[none,none]) H3 s₄:=by
  obtain ⟨m,hm,hl⟩:=I3.loc
  refine ⟨ok',by rw [<- hs4];rfl,by rw [<- hs4];exact I3.bare,by rw [h4];exact Un.kept old,⟨_,by rw [h4];exact hns₁,?_⟩,?_,I3.hok.fresh (Qh _),fun y c e=>I3.freeC y c (cl1 y c e),?_,by rw [h4];exact I3.hok.kept old,?_⟩
  ·intro i y v e1 e2 e3
   have hlt:i < σ.length:=by
    rcases NT i σ.length with z | z
    ·exact z
    ·rw [getElem?_append_right z] at e2
     have:=mem_of_getElem? e2
     simp at this
   rw [getElem?_append_left hlt] at e2
   have hsm:∃ k,scope.names.lookup y=some k:=by
    rcases e3 with hk | hk | hk
    ·rcases ZK O.cell hk with q | q
     ·exact ⟨_,q⟩
     ·exact ⟨_,q.1⟩
    ·rcases ZK O.cell hk with q | q
     ·exact ⟨_,q⟩
     ·exact ⟨_,q.1⟩
    ·rcases ZK O.cell hk with q | q
     ·exact ⟨_,q⟩
     ·exact ⟨_,q.1⟩
   obtain ⟨e1',hyx⟩:X.N[i]?=some y/\¬ (y=xa\/y=xb):=by
    have e1:(UR X.N xa xb++[xa,xb])[i]?=some y:=e1
    rw [getElem?_append_left (by rw [ZeD,<- I3.len];exact hlt)] at e1
    rcases ZjH e1 with z | z
    ·exact z
    ·obtain ⟨k,hk⟩:=hsm
     rw [z,O.noh] at hk;cases hk
   have hy:y∈X.N:=mem_of_getElem? e1'
   have hf:scope.names.lookup y=some .free:=by
    rcases e3 with hk | hk | hk
    ·rcases ZK O.cell hk with q | q
     ·exact absurd q (O.own y hy hyx)
     ·exact q.1
    ·rcases ZK O.cell hk with q | q
     ·exact absurd rfl (O.cell _ (mem_of_lookup q))
     ·exact q.1
    ·rcases ZK O.cell hk with q | q
     ·exact q
     ·exact q.1
   have hk:=O.clos _ (mem_of_lookup hf) rfl
   have hv:Vis X.env.scope y:=by rcases hk with z | z;exact .inr (.inl z);exact .inr (.inr z)
   obtain ⟨u,ru,lu⟩:=hl i y v e1' e2 hv
   refine ⟨u,ru,?_⟩
   have hkc:(TC scope cl s₃.heap.objs.size X.env).kindOf y=some .cell\/(TC scope cl s₃.heap.objs.size X.env).kindOf y=some .free:=by
    rcases e3 with q | q | q
    ·rcases ZK O.cell q with z | z
     ·exact absurd z (O.own y hy hyx)
     ·cases z.2
    ·exact .inl q
    ·exact .inr q
   rcases lu with ⟨q,_⟩ | ⟨_,c,hcl,hcc⟩
   ·rcases hk with z | z<;>(rw [q] at z;cases z)
   ·refine .inr ⟨hkc,?_⟩
    cases e:cl.lookup y with
    | none=>exact absurd e (cl2 _ (mem_of_lookup hf) rfl)
    | some c' =>
     have:=cl1 y c' e
     rw [hcl] at this
     cases this
     refine ⟨c,e,?_⟩
     rw [h4]
     obtain ⟨oc,ho,hd⟩:=hcc
     exact ⟨oc,old _ _ ho,hd⟩
  ·intro y c e
   obtain ⟨v,oc,ho,hd⟩:=I3.cell y c (cl1 y c e)
   exact ⟨v,oc,by rw [h4];exact old _ _ ho,hd⟩
  ·intro p hp;cases hp
  ·show (σ++[none,none]).length=(UR X.N xa xb++[xa,xb]).length
   rw [length_append,length_append,ZeD,I3.len];rfl
 have st4:tn 0 s₄.heap:=by rw [h4];exact T.keep _ _ _ st3' fun b hb o e=>old b o e
 have fpok:∀ {H':Hp},(∀ b∈fp,H' b=none)->∀ b∈fp,YM (Xo X scope xa xb cl s₃.heap.objs.size s₃ H3 fp) [] H' b:=fun hn b hb=>by
  obtain ⟨g0,g1,g2,g3,g4,g5⟩:=f3 b hb
  refine ⟨hn b hb,Qt (hobj b hb),ok'.exfs b hb,.inl hb,fun y c e=>g4 y c (cl1 y c e),?_⟩
  intro p hp;cases hp
 have loop:Pf (QA X.prog X.w) X.A (.compLoop (.ListComp elt [⟨tg,iter,[],0⟩] scope pos) 0 (.ref it) (.ref D) (TC scope cl s₃.heap.objs.size X.env)) (RR (.ref D) s₃.heap.objs.size) s₄:=by
  refine Uo (fun n s'=>∃ i ys wa wb H',Inv (Xo X scope xa xb cl s₃.heap.objs.size s₃ H3 fp) [] (σ++[wa,wb]) H' s'/\tn i s'.heap/\(∀ b∈fp,H' b=none)/\W i n ys H') ?_ m0 ⟨0,[],none,none,H3,I4,st4,fun b hb=>(f3 b hb).1,w0⟩
  rintro n s5 ⟨i,ys,wa,wb,H5,I5,st5,fr5,w5⟩
  rcases turn i n ys H5 w5 with ⟨stop,q⟩ | ⟨go,N,hN,step⟩
  ·refine Zt (T.done (Xo X scope xa xb cl s₃.heap.objs.size s₃ H3 fp) rfl rfl rfl hc i [] s5 _ H5 _ I5 (fpok fr5) st5 stop) fun r s6 ⟨hr,I6⟩=>?_
   subst hr
   obtain ⟨m6,hn6,_⟩:=I6.loc
   have IX:Inv X pins σ H5 s6:=I3.call' (ch:=fp) I6.os I6.base I6.hok I6.bare fun b hb=>by
    obtain ⟨g0,g1,g2,g3,g4,g5⟩:=f3 b hb
    exact ⟨g3,g1,g4,g5⟩
   exact hRR D _ H5 s6 IX (I3.fpOk (Qh _) I6.free) ⟨m6,hn6⟩ q
  ·refine Zt (T.item (Xo X scope xa xb cl s₃.heap.objs.size s₃ H3 fp) rfl rfl rfl hc i [] s5 _ H5 _ I5 (fpok fr5) st5 go) fun r s6 ⟨u,hr,h6⟩=>?_
   subst hr
   refine Zt h6 fun _ s7 ⟨v,H7,I7,r7,y7,st7,fr7⟩=>?_
   have I7':=I7.pinned (fpok fr7) (T.obj _ _ st7)
   refine Zt (hg cl s₃.heap.objs.size s₃ H3 fp _ s7 _ H7 v u _ I7' r7 (step wa wb v H7 y7)) fun _ s8 ⟨σ8,H8,I8,⟨wa',wb',e8⟩,q8⟩=>?_
   subst e8
   refine Zt (he cl s₃.heap.objs.size s₃ H3 fp _ s8 _ H8 _ I8 q8) fun uy s9 ⟨y,H9,I9,r9,n9⟩=>?_
   obtain ⟨hl9,hz9,m',hm',w9⟩:=hN y H9 n9
   refine Zt (YG (X:=Xo X scope xa xb cl s₃.heap.objs.size s₃ H3 fp) _ s9 _ H9 (.ref D) [y] (.ref D) [uy] (fun v H'=>H'=upd H9 D (.lst (ys++[y]))) I9 rfl (.cons r9 .nil) ⟨D,ys,y,rfl,rfl,hl9,hz9,rfl⟩) fun _ s10 ⟨_,H10,I10,_,e10⟩=>?_
   subst e10
   refine ⟨m',hm',i+1,ys++[y],wa',wb',_,I10.unpinned (pins:=[]),T.keep _ _ _ st7 fun b hb o e=>(I10.pin (b,o) (mem_append_right _ (mem_append_right _ (Xc hb e)))).1,fun b hb=>?_,w9⟩
   obtain ⟨o,e,d⟩:=T.obj _ _ st7 b hb
   exact (I10.pin (b,o) (mem_append_right _ (mem_append_right _ (Xc hb e)))).2.1
 exact TD loop (T.self _ 0 _ _ _ st4 loop)
theorem Zkn (O:CompOkT X scope xa xb)(hc:X.calm=true)(hi:PI X tg iter wi)(hg:∀ cl C s₀ H₀ fp,PG (Xo X scope xa xb cl C s₀ H₀ fp) tg g)(he:∀ cl C s₀ H₀ fp,PE (Xo X scope xa xb cl C s₀ H₀ fp) elt te)
 (hs:∀ v,Jw iter X.env v=pure v:=by intro _;rfl):PE X (.ListComp elt [⟨tg,iter,[],0⟩] scope pos) (ZiD wi g te):=by
 intro pins s σ H Q I h
 obtain ⟨cl,hcl,cl1,cl2⟩:=Uj (scope:=scope) (env:=X.env) fun y hy hf=>I.ok.has _ (O.clos y hy hf)
 rw [Nr]
 refine GZ (use:=none) rfl hs hcl O.kind O.names (Zt (hi pins s σ H _ I h) fun v s1 h1=>Zt h1 fun itv s2 h2=>?_)
 obtain ⟨it,fp,tn,J,H2,e,I2,T,st2,f2,q⟩:=h2
 subst e
 refine Zbf (RR:=fun acc C=>NU (QA X.prog X.w) X.A X.xe none (EP X pins σ Q) acc C) O hc cl1 cl2 hg he I2 T st2 f2 q ?_
 intro D C H' s' I' ⟨g0,g1,g2,g3,g4,g5⟩ ⟨m,hm⟩ hq
 exact ⟨m,hm,fun h' hs'=>⟨.ref D,H',I'.turned (t':=s'.toks) (fun b o hb e=>(hs'.2 b hb).trans e) g0 g1 g3 g4 g5,rfl,hq⟩⟩
end
section
variable {X:Cx}{elt iter tg cnd:Expr}{xa xb:Str}{pos:Pos}{scope:Scope}{wi:TI}{te:TE}{tc:TT}{g:TG}
end
end L2
namespace L2
open PySem
def Wj:HO->Bool
 | .tup _=>false
 | .frz _ _=>false
 | .own _=>false
 | .met _ _=>false
 | .rng _ _=>false
 | .ext _=>false
 | _=>true
def cut (H h:Hp):Hp:=fun b=>match h b with
 | some o=>if Wj o=true then none else H b
 | none=>H b
def one (p:Addr)(o:HO):Hp:=fun b=>if b=p then some o else none
theorem one_some {p b:Addr}{o u:HO}:one p o b=some u↔b=p/\o=u:=by
 unfold one
 by_cases h:b=p
 ·rw [if_pos h];exact ⟨fun z=>⟨h,QZ z⟩,fun z=>by rw [z.2]⟩
 ·rw [if_neg h];exact ⟨fun z=>(by cases z),fun z=>absurd z.1 h⟩
abbrev Wr:=Addr->Hp->Prop
abbrev Rs:=List (Addr×Wr)
def Sep:Rs->Hp->Prop
 | [],_=>True
 | (a,R)::Δ,H=>∃ h,Same h H/\R a h/\Sep Δ (cut H h)
theorem cut_some {H h:Hp}{b:Addr}{o:HO}:cut H h b=some o↔H b=some o/\∀ u,h b=some u->Wj u=false:=by
 unfold cut
 cases e:h b with
 | none=>exact ⟨fun z=>⟨z,fun u q=>by cases q⟩,fun z=>z.1⟩
 | some v =>
  cases m:Wj v with
  | true=>show (if Wj v=true then none else H b)=some o↔_;rw [if_pos m];exact ⟨fun z=>(by cases z),fun z=>(by have:=z.2 v rfl;rw [m] at this;cases this)⟩
  | false=>show (if Wj v=true then none else H b)=some o↔_;rw [if_neg (by rw [m];decide)];exact ⟨fun z=>⟨z,fun u q=>(by cases q;exact m)⟩,fun z=>z.1⟩
theorem ZhU {H h:Hp}:Same (cut H h) H:=fun b o e=>(cut_some.mp e).1
theorem Zku {H H' h:Hp}(s:Same H H'):Same (cut H h) (cut H' h):=fun b o e=>let ⟨x,y⟩:=cut_some.mp e;cut_some.mpr ⟨s _ _ x,y⟩
theorem Sep.mono:∀{Δ:Rs}{H H':Hp},Sep Δ H->Same H H'->Sep Δ H'
 | [],_,_,_,_=>trivial
 | (_,_)::_,_,_,⟨h,l,r,S⟩,s=>⟨h,l.trans s,r,S.mono (Zku s)⟩
theorem Sep.swap {a b:Addr}{R T:Wr}{Δ:Rs}{H:Hp}(S:Sep ((a,R)::(b,T)::Δ) H):Sep ((b,T)::(a,R)::Δ) H:=by
 obtain ⟨h,l,r,g,m,t,S⟩:=S
 refine ⟨g,m.trans ZhU,t,h,fun c o e=>cut_some.mpr ⟨l _ _ e,fun u q=>?_⟩,r,S.mono fun c o e=>?_⟩
 ·obtain ⟨q1,q2⟩:=cut_some.mp (m _ _ q)
  have e2:=l _ _ e
  rw [q1] at e2;cases e2
  exact q2 _ e
 ·obtain ⟨e1,e2⟩:=cut_some.mp e
  obtain ⟨e3,e4⟩:=cut_some.mp e1
  exact cut_some.mpr ⟨cut_some.mpr ⟨e3,e2⟩,e4⟩
theorem Sep.tail {a:Addr}{R:Wr}{Δ:Rs}{H:Hp}(S:Sep ((a,R)::Δ) H):Sep Δ H:=by
 obtain ⟨h,l,r,S⟩:=S
 exact S.mono ZhU
class Pull (a:Addr) (Δ:Rs) (R:outParam Wr) (Δ':outParam Rs):Prop where
 out:∀ {H},Sep Δ H->Sep ((a,R)::Δ') H
instance (priority:=1000) Pull.here {a:Addr} {R:Wr} {Δ:Rs}:Pull a ((a,R)::Δ) R Δ:=⟨fun S=>S⟩
instance (priority:=900) Pull.there {a b:Addr} {R T:Wr} {Δ Δ':Rs} [P:Pull a Δ R Δ']:Pull a ((b,T)::Δ) R ((b,T)::Δ') :=
 ⟨fun S=>by
  obtain ⟨h,l,r,S⟩:=S
  exact Sep.swap ⟨h,l,r,P.out S⟩⟩
theorem Sep.pull {Δ Δ':Rs}{H:Hp}{R:Wr}(S:Sep Δ H)(a:Addr)[P:Pull a Δ R Δ']:Sep ((a,R)::Δ') H:=P.out S
theorem Sep.drop {Δ Δ':Rs}{H:Hp}{R:Wr}(S:Sep Δ H)(a:Addr)[P:Pull a Δ R Δ']:Sep Δ' H:=(P.out S).tail
class Up (R:Wr):Prop where
 up:∀ {a:Addr} {H H':Hp},R a H->Same H H'->R a H'
theorem Sep.get {Δ Δ':Rs}{H:Hp}{R:Wr}(S:Sep Δ H)(a:Addr)[P:Pull a Δ R Δ'][U:Up R]:R a H:=by
 obtain ⟨h,l,r,_⟩:=P.out S
 exact U.up r l
def Pt (o:HO):Wr:=fun a h=>h a=some o
abbrev UU (xs:List V):Wr:=Pt (.lst xs)
instance {o:HO}:Up (Pt o):=⟨fun h s=>s _ _ h⟩
theorem Sep.new {Δ:Rs}{H:Hp}(S:Sep Δ H){p:Addr}(hp:H p=none)(o:HO):Sep ((p,Pt o)::Δ) (upd H p o):=by
 refine ⟨one p o,fun b u e=>?_,one_some.mpr ⟨rfl,rfl⟩,S.mono fun b u e=>?_⟩
 ·obtain ⟨rfl,rfl⟩:=one_some.mp e;exact Ze
 ·have hb:=ZL e hp
  exact cut_some.mpr ⟨by rw [Zn hb];exact e,fun v q=>absurd (one_some.mp q).1 hb⟩
theorem Sep.made {Δ:Rs}{H H':Hp}(S:Sep Δ H)(s:Same H H'){p:Addr}{o:HO}(hp:H p=none)(e:H' p=some o):Sep ((p,Pt o)::Δ) H':=by
 refine ⟨one p o,fun b u q=>?_,one_some.mpr ⟨rfl,rfl⟩,S.mono fun b u q=>?_⟩
 ·obtain ⟨rfl,rfl⟩:=one_some.mp q;exact e
 ·have hb:=ZL q hp
  exact cut_some.mpr ⟨s _ _ q,fun v q=>absurd (one_some.mp q).1 hb⟩
theorem Sep.put {Δ Δ':Rs}{H:Hp}{o:HO}(S:Sep Δ H)(a:Addr)(o':HO)[P:Pull a Δ (Pt o) Δ'](m:Wj o=true:=by rfl):Sep ((a,Pt o')::Δ') (upd H a o'):=by
 obtain ⟨h,l,r,S⟩:=P.out S
 refine ⟨one a o',fun b u q=>?_,one_some.mpr ⟨rfl,rfl⟩,S.mono fun b u q=>?_⟩
 ·obtain ⟨rfl,rfl⟩:=one_some.mp q;exact Ze
 ·obtain ⟨q1,q2⟩:=cut_some.mp q
  have hb:b≠a:=fun z=>by
   have:=q2 o (by rw [z];exact r)
   rw [m] at this;cases this
  exact cut_some.mpr ⟨by rw [Zn hb];exact q1,fun v q=>absurd (one_some.mp q).1 hb⟩
theorem Sep.say {Δ Δ':Rs}{H:Hp}{R:Wr}(S:Sep Δ H)(a:Addr)(T:Wr)[P:Pull a Δ R Δ'](f:∀ h,R a h->T a h):Sep ((a,T)::Δ') H:=by
 obtain ⟨h,l,r,S⟩:=P.out S
 exact ⟨h,l,f h r,S⟩
theorem Sep.call {Δ:Rs}{H H':Hp}{a:Addr}{R T:Wr}{L:List Addr}(S:Sep ((a,R)::Δ) H)(k:∀ b o,b ∉ L->H b=some o->H' b=some o)
 (f:∀ h,Same h H->R a h->(∀ b∈L,∃ o,h b=some o/\Wj o=true)/\∃ h',Same h' H'/\T a h'/\∀ b o,h' b=some o->Wj o=true->b∈L\/H b=none\/∃ u,h b=some u/\Wj u=true):Sep ((a,T)::Δ) H':=by
 obtain ⟨h,l,r,S⟩:=S
 obtain ⟨f1,h',l',t,f2⟩:=f h l r
 refine ⟨h',l',t,S.mono fun b o e=>?_⟩
 obtain ⟨e1,e2⟩:=cut_some.mp e
 have hb:b ∉ L:=fun z=>by
  obtain ⟨u,q1,q2⟩:=f1 b z
  rw [e2 u q1] at q2;cases q2
 refine cut_some.mpr ⟨k b o hb e1,fun u q=>?_⟩
 cases m:Wj u with
 | false=>rfl
 | true =>
  rcases f2 b u q m with z | z | ⟨v,z1,z2⟩
  ·exact absurd z hb
  ·rw [e1] at z;cases z
  ·rw [e2 v z1] at z2;cases z2
abbrev Bx (n:Nat):Wr:=fun a h=>BoxAt h a n
instance {n:Nat}:Up (Bx n):=⟨fun h s=>h.same s⟩
theorem Sep.box {Δ:Rs}{H H':Hp}{p:Addr}{n m:Nat}(S:Sep ((p,Bx n)::Δ) H)(k:Kp p H H')(B:BoxAt H' p m):Sep ((p,Bx m)::Δ) H':=by
 refine S.call (L:=[p]) (fun b o nb e=>k b o (fun z=>nb (by simp [z])) e) fun h l r=>⟨fun b hb=>?_,?_⟩
 ·rw [mem_singleton.mp hb]
  obtain ⟨x,y,z,e,_⟩:=r
  exact ⟨_,e,rfl⟩
 ·obtain ⟨x,y,z,e,w⟩:=B
  refine ⟨one p (.lst [.int x,.int y,.int z]),fun b u q=>?_,⟨x,y,z,one_some.mpr ⟨rfl,rfl⟩,w⟩,fun b o q _=>.inl (by simp [(one_some.mp q).1])⟩
  obtain ⟨rfl,rfl⟩:=one_some.mp q;exact e
def ZfY (M:Int):Sp:=fun vs H Q _=>∃(p:Addr)(n:Nat)(m:Int)(Δ:Rs),vs=[.ref p,.int m]/\Sep ((p,Bx n)::Δ) H/\n<=1000000/\0 < m/\m < M/\∀(r:Int)(H':Hp),0<=r->r < m->Sep ((p,Bx (n+1))::Δ) H'->Q (.int r) H'
theorem Zny {M:Int}{vs:List V}{H:Hp}{Q:VK}{E:XK}(h:ZfY M vs H Q E):ZbU M vs H Q E:=by
 obtain ⟨p,n,m,Δ,e,S,h1,h2,h3,q⟩:=h
 exact ⟨p,n,m,e,S.get p,h1,h2,h3,fun r H' a b B k=>q r H' a b (S.box k B)⟩
structure Ya (mg:Str->Option Qe):Prop where
 len:mg "len"=none
 abs:mg "abs"=none
 int:mg "int"=none
 range:mg "range"=none
 min:mg "min"=none
 max:mg "max"=none
 repr:mg "repr"=none
 enumerate:mg "enumerate"=none
 ord:mg "ord"=none
 list:mg "list"=none
 tuple:mg "tuple"=none
 dict:mg "dict"=none
 sorted:mg "sorted"=none
 sum:mg "sum"=none
 all:mg "all"=none
 any:mg "any"=none
 divmod:mg "divmod"=none
 str:mg "str"=none
 isinstance:mg "isinstance"=none
 set:mg "set"=none
 zip:mg "zip"=none
 reversed:mg "reversed"=none
 bool:mg "bool"=none
abbrev DTk (P:Qm)(w:QC)(K:Qb)(mg:Str->Option Qe)(base:Heap)(k:Nat):Prop:=Def P w K mg base k "_law_take" ["_law_box_here","_law_many"] (ZfY 4611686018427387904)
theorem FnOk.conv {P:Qm}{w:QC}{K:Qb}{mg:Str->Option Qe}{base:Heap}{k:Nat}{f:Addr}{fd:Qq}{ps:List Str}{sp sp':Sp}(F:FnOk P w K mg base Yc k f fd ps sp)(h:∀ vs H Q E,sp' vs H Q E->sp vs H Q E):FnOk P w K mg base Yc k f fd ps sp' :=
 ⟨fun vs H Q E z=>F.len vs H Q E (h vs H Q E z),fun A outer s H args us vs Q E hr he hb hv z=>F.run A outer s H args us vs Q E hr he hb hv (h vs H Q E z)⟩
theorem Def.conv {P:Qm}{w:QC}{K:Qb}{mg:Str->Option Qe}{base:Heap}{k:Nat}{x:Str}{ps:List Str}{sp sp':Sp}(D:Def P w K mg base k x ps sp)(h:∀ vs H Q E,sp' vs H Q E->sp vs H Q E):Def P w K mg base k x ps sp' :=
 let ⟨f,fd,F,b,kp,m⟩:=D;⟨f,fd,F.conv h,b,kp,m⟩
theorem Zce {α:Type}{xs:List α}{r:Int}{v:α}(h0:0<=r)(h:xs[r.toNat]?=some v):Xn xs r=some v:=by
 have z:Xn xs ((r.toNat:Nat):Int)=some v:=ZF h
 rwa [show ((r.toNat:Nat):Int)=r by omega] at z
theorem Zp {n m:Nat}(h:n<=m)(hm:m<=100000:=by decide):n<=sizeLine:=Qw (Qw h hm) (by decide)
theorem Wq {n m:Nat}(h:n<=m)(hm:m<=100000:=by decide):n < sizeLine:=JY (Qw h hm) (by decide)
section
variable {X:Cx}{k:Nat}{C:Addr}{m:Str}{ps:List Str}{sp:Sp}{pos apos:Pos}{o e:Expr}{es:List Expr}{ta:TE}{t:TA}
end
theorem ZcU {α:Type}{xs:List α}{r:Int}(h0:0<=r)(h1:r < (xs.length:Int)):∃ v,Xn xs r=some v/\v∈xs:=by
 have hk:r.toNat < xs.length:=by omega
 have z:Xn xs ((r.toNat:Nat):Int)=some xs[r.toNat]:=ZF (getElem?_eq_getElem hk)
 have e:((r.toNat:Nat):Int)=r:=by omega
 rw [e] at z
 exact ⟨_,z,Pz hk⟩
def IsVal:V->Prop
 | .int i=>i.natAbs < 10 ^ 30
 | .str x=>x.length<=40/\x.cps.toList.all Yz=true
 | _=>False
def Zhn:V->Bool
 | .int i=>decide (i.natAbs < 10 ^ 30)
 | .str x=>decide (x.length<=40)&&x.cps.toList.all Yz
 | _=>false
theorem ZdZ {v:V}(h:Zhn v=true):IsVal v:=by
 cases v with
 | int i=>exact of_decide_eq_true (p:=i.natAbs < 10 ^ 30) h
 | str x =>
  have h':(decide (x.length<=40)&&x.cps.toList.all Yz)=true:=h
  simp only [QL,decide_eq_true_eq] at h'
  exact h'
 | _=>cases h
theorem IsVal.b31 {i:Int}(h:IsVal (.int i)):i.natAbs<=10 ^ 31:=Qw (Tq (show i.natAbs < 10 ^ 30 from h)) (by decide)
def ZfK:Sp:=fun vs H Q _=>∃(p:Addr)(n:Nat),vs=[.ref p]/\BoxAt H p n/\n<=900000/\∀(v:V)(H':Hp),IsVal v->BoxAt H' p (n+50)->Kp p H H'->Q v H'
def ZlK:List Stmt->Str
 | .Assign _ (.Constant (.str x) _ _) _::_=>x
 | _::r=>ZlK r
 | []=>Str.empty
def ZeU (N:List Str)(names:List (Str×Tw))(scope:Scope)(xa xb:Str):Bool :=
 decide ((UR N xa xb++[xa,xb]).Nodup)&&scope.names.all (fun y=>(y.2 != .free || names.lookup y.1 == some .cell || names.lookup y.1 == some .free)&&(y.2 != .cell&&(y.2 != .local || scope.names.lookup y.1 == some .local))) &&
 (scope.kind == .function&&N.all fun y=>(y == xa || y == xb) || scope.names.lookup y != some .local)&&scope.names.lookup ("":Str) == none
theorem CompOkT.of {X:Cx}{scope:Scope}{xa xb:Str}(N:List Str)(st:Stmt)(hN:X.N=N)(hn:X.env.scope=Zl st)(chk:ZeU N (Zl st).names scope xa xb=true):CompOkT X scope xa xb:=by
 unfold ZeU at chk
 simp only [QL,decide_eq_true_eq,all_eq_true,OA,bne_iff_ne,beq_iff_eq] at chk
 obtain ⟨⟨⟨c1,c2⟩,c3,c5⟩,c6⟩:=chk
 refine ⟨by rw [hN];exact c1,fun y hy hf=>?_,fun y hy=>(c2 y hy).2.1,c3,fun y hy hl=>?_,fun y hy hx=>(c5 y (by rw [<- hN];exact hy)).resolve_left hx,c6⟩
 ·show X.env.scope.names.lookup y.1=_\/X.env.scope.names.lookup y.1=_
  rw [hn]
  rcases (c2 y hy).1 with (z | z) | z
  ·exact absurd hf z
  ·exact .inl z
  ·exact .inr z
 ·rcases (c2 y hy).2.2 with z | z
  ·exact absurd hl z
  ·exact z
theorem Zgb {X:Cx}{K:Qb}(hK:X.K=K)(hc:X.calm=true){xa xb:Str}{pa pb tp:Pos}{j:Nat}{ga gb:TG}(ha:PG X (.Name xa pa) ga)(hb:PG X (.Name xb pb) gb):PG X (.Tuple [.Name xa pa,.Name xb pb] j tp) (gTup K 2 (ZgK ga (ZgK gb gNil))):=by
 subst hK
 exact Wb hc (Ye ha (Ye hb Xw))
end L2
namespace L2
open PySem PySem.Spec PyProof.Rows
section
variable {X:Cx}
end
section
variable {X:Cx}{k:Nat}{C:Addr}{x m:Str}{ps:List Str}{sp:Sp}{p pos apos:Pos}{o:Expr}{ta:TE}
end
def ZcM (K:Qb)(a:Addr):It :=
 ⟨fun i H=>∃ xs x,SqL K H a xs/\xs[i]?=some x,fun i H v H'=>∃ t x,H t=none/\(∀ xs,SqL K H a xs->xs[i]?=some x)/\v=.ref t/\H'=upd H t (.tup [.int (i:Int),x]),fun i H=>∃ xs,SqL K H a xs/\xs.length<=i⟩
theorem ZgL {P:Qm}{w:QC}{K:Qb}{elts:List Expr}{x1:Nat}{tp:Pos}(a e it:Addr)(hne:e≠it)(hai:a≠it)(hae:a≠e) :
 Ub P w K (.Tuple elts x1 tp) (ZcM K a) [e,it] e (fun i h=>(∃ old,IsEnum h e it (i:Int) old)/\h.IsListIter it a i) where
 mem:=by simp
 obj:=fun i h st b hb=>by
  obtain ⟨⟨old,he⟩,⟨o,ho,c,d⟩⟩:=st
  rcases mem_cons.mp hb with q | hb
  ·rw [q];exact ⟨_,he,fun v z=>by cases z⟩
  ·rw [mem_singleton.mp hb];exact ⟨o,ho,fun v z=>by rw [d] at z;cases z⟩
 keep:=fun i h h' st k=>by
  obtain ⟨⟨old,he⟩,st⟩:=st
  exact ⟨⟨old,k e (by simp) _ he⟩,st.at fun o y=>k it (by simp) o y⟩
 item:=by
  intro X hP hw hK hc i pins s σ H E I hf st hg
  subst hP hw hK
  obtain ⟨⟨old,he⟩,hs⟩:=st
  obtain ⟨xs,x,hq,hx⟩:=hg
  obtain ⟨its,rv,p,hz⟩:=I.list hq
  obtain ⟨u,hu,ru⟩:=rv.get hx
  have hlt:i < its.toArray.size:=by
   have:=(Ql.mp hu).1
   simpa using this
  have D:=Draws.list (prog:=X.prog) (w:=X.w) (A:=X.A.in1) (I.ok.hd hc) it a hai its.toArray
  refine RV (i:=i) D he ⟨hs,p.isList⟩ hlt hne (by simp [hne,GR hae]) fun v h' tk hP hOut hst hT hsz hk=>?_
  have ev:v=u:=by
   have:its[i]?=some v:=by simpa using hP
   rw [hu] at this;exact (QZ this).symm
  subst ev
  have hel:e < s.heap.objs.size:=Qj he
  have hil:it < s.heap.objs.size:=by obtain ⟨o,ho,_⟩:=hs;exact Qj ho
  refine ⟨_,rfl,Rp hOut fun h2 he2 hs2=>?_⟩
  generalize hO:({ cls:=.type "tuple",data:=.seq #[.int ((i:Nat):Int) tk,v] }:Obj)=O at hT
  have I1:Inv X pins σ (upd H s.heap.objs.size (.tup [.int (i:Int),x])) { s with heap:=s.heap.push O,toks:=tk+1 }:=by
   refine I.laid (t':=tk+1) (fun b o y=>Qf _ y) (Qh _) (show ObjOk X.prog X.w _ _ _ (.tup _) from ⟨by show 2<=Qi;decide,[.int ((i:Nat):Int) tk,v],.cons ⟨tk,rfl⟩ (.cons ru .nil),?_⟩)
   rw [<- hO];exact Px _ _
  have hfree:=I.hok.fresh (Qh s.heap.objs.size)
  have hf2:∀ b∈[e,it],YM X pins (upd H s.heap.objs.size (.tup [.int (i:Int),x])) b:=fun b hb=>by
   obtain ⟨f0,f1⟩:=hf b hb
   have hb':b≠s.heap.objs.size:=by
    rcases mem_cons.mp hb with q | hb
    ·rw [q];exact Qt hel
    ·rw [mem_singleton.mp hb];exact Qt hil
   exact ⟨by rw [Zn hb'];exact f0,f1⟩
  have I2:Inv X pins σ (upd H s.heap.objs.size (.tup [.int (i:Int),x])) { s with heap:=h2,toks:=tk+1 }:=by
   refine I1.turned2 (t':=tk+1) (h':=h2) (fun b o hb y=>?_) hf2
   have hbe:b≠e:=fun q=>hb (by simp [q])
   have hbi:b≠it:=fun q=>hb (by simp [q])
   rw [hs2.2 b hbe]
   rcases JB y with ⟨q1,q2⟩ | y
   ·rw [q1,q2];exact hT
   ·exact hk b o hbe hbi y
  refine ⟨.ref s.heap.objs.size,_,I2,rfl,⟨s.heap.objs.size,x,hfree,fun ys hy=>by rw [I.list_inj hy hq];exact hx,rfl,rfl⟩,⟨⟨_,he2⟩,?_⟩,fun b hb=>(hf2 b hb).1⟩
  exact hst.1.at fun o y=>by rw [hs2.2 it hne.symm];exact y
 done:=by
  intro X hP hw hK hc i pins s σ H E I hf st hg
  subst hP hw hK
  obtain ⟨⟨old,he⟩,hs⟩:=st
  obtain ⟨xs,hq,hle⟩:=hg
  obtain ⟨its,rv,p,hz⟩:=I.list hq
  have hl:=rv.length
  obtain ⟨f0,f1,f2,f3,f4,f5⟩:=hf it (by simp)
  exact wpAny_pyNext_enum_end (I.ok.hd hc) he hs p.isList (by simp;omega) fun h' eb=>⟨rfl,I.turned (t':=s.toks) (fun b o hb y=>eb b o hb y) f0 f1 f3 f4 f5⟩
 self:=fun _ _ _ _ _ st h=>by
  obtain ⟨⟨old,he⟩,_⟩:=st
  exact TJ he h
def Zot (K:Qb)(tl:TE):TI:=fun σ H R=>tl σ H fun v H1=>∃ a xs,[v]=[V.ref a]/\H1 a=some (.lst xs)/\R (ZcM K a) H1
section
variable {X:Cx}
theorem ZkK {l:Expr}{tl:TE}{elts:List Expr}{x1:Nat}{tp p pos:Pos}(hg:Gl X "enumerate")(hm:X.mg "enumerate"=none)(hl:PE X l tl)
 (he:QH [l] X.env=[(false,eval l X.env)]:=by rfl):PI X (.Tuple elts x1 tp) (.Call (.Name "enumerate" p) [l] [] pos) (Zot X.K tl):=by
 intro pins s σ H R I h
 have ha:PA X [l] (Xa tl Xf):=YC hl Za he
 refine Gc (Ug I hg hm boot_enumerate ?_)
 refine Gw (Zt (ha pos pins s σ H (fun vs H1=>∃ a xs,vs=[V.ref a]/\H1 a=some (.lst xs)/\R (ZcM X.K a) H1) I h) fun us s1 ⟨vs,H1,I1,r1,a,xs,e,ea,q⟩=>?_) he rfl
 subst e
 obtain ⟨u,rfl,r⟩:=YU r1
 cases r
 obtain ⟨z,its,n,rv,hll,eo⟩:=I1.lstM ea
 have hal:a < s1.heap.objs.size:=Qj eo
 refine call_enumerate_1 eo fun h' hE hit hsz hkk=>TJ hE ?_
 refine ⟨s1.heap.objs.size+1,[s1.heap.objs.size+1,s1.heap.objs.size],_,_,H1,rfl,I1.kept (t':=s1.toks) hkk,ZgL a _ _ (Mo _) (Qt hal) (Qt (NW hal)),⟨⟨_,hE⟩,hit⟩,fun b hb=>?_,q⟩
 rcases mem_cons.mp hb with z | hb
 ·rw [z];exact I1.fpOk (JV _) (I1.hok.fresh (JV _))
 ·rw [mem_singleton.mp hb];exact I1.fpOk (Qh _) (I1.hok.fresh (Qh _))
end
def Zpj (i j k:Nat)(ta:TA):TS:=fun D σ H=>ta σ H fun vs H1=>∃ u v w,vs=[u,v,w]/\D.nx (((σ.set i (some u)).set j (some v)).set k (some w)) H1
theorem VE {X:Cx}{pos:Pos}{i j k:Nat}{x y z:Str}{a b c:Expr}{ta:TA}{px py pz pt:Pos}{kt k2 pt2}(hc:X.calm=true)(hN:X.N.Nodup)(hi:X.N[i]?=some x)(hj:X.N[j]?=some y)(hk:X.N[k]?=some z)(hij:i≠j)(hik:i≠k)(hjk:j≠k)
 (hx:X.env.scope.names.lookup x=some .local) (hy:X.env.scope.names.lookup y=some .local) (hz:X.env.scope.names.lookup z=some .local) (ha:PA X [a,b,c] ta)
 (hw:Np [.Tuple [.Name x px,.Name y py,.Name z pz] kt pt] (.Tuple [a,b,c] k2 pt2) X.env=pure (some [x,y,z]))
 (hs:No [.Tuple [.Name x px,.Name y py,.Name z pz] kt pt] (.Tuple [a,b,c] k2 pt2) pos.line X.env=pure false:=by rfl) :
 PS X (.Assign [.Tuple [.Name x px,.Name y py,.Name z pz] kt pt] (.Tuple [a,b,c] k2 pt2) pos) (Zpj i j k ta):=by
 intro pins s σ H D I h
 rw [MA]
 refine Qd (GC ?_)
 rw [hs]
 refine Qd (Qk ?_)
 rw [if_neg (by decide)]
 refine Qd (Tuple_ (Zt (ha _ pins s σ H _ I h) fun us s1 ⟨vs,H1,I1,r1,q1⟩=>?_))
 obtain ⟨v1,v2,v3,e1,q1⟩:=q1
 subst e1
 obtain ⟨u1,u2,u3,rfl,rv1,rv2,rv3⟩:∃ u1 u2 u3,us=[u1,u2,u3]/\RelV v1 u1/\RelV v2 u2/\RelV v3 u3:=by
  cases r1 with
  | cons p q =>
   cases q with
   | cons p' q' =>
    cases q' with
    | cons p'' q'' =>
     cases q''
     exact ⟨_,_,_,rfl,p,p',p''⟩
 refine Gj ?_ (by show 3<=Qi;decide)
 have I2:Inv X pins σ H1 { s1 with heap:=s1.heap.push { cls:=.type "tuple",data:=.seq [u1,u2,u3].toArray } }:=I1.kept (t':=s1.toks) fun b o e=>Qf _ e
 rw [hw]
 refine Qd (Qk ?_)
 show Qr (QA X.prog X.w) X.A (do rule "assign.swapped-stores";let items <- OM (.ref s1.heap.objs.size) 3 none;PU [fun v=>Pm X.env z v,fun v=>Pm X.env y v,fun v=>Pm X.env x v] items.reverse;pure Me) _ _ _
 refine Qd (Te (Qd (NM (items:=#[u1,u2,u3]) (I.ok.hd hc) (Px s1.heap _) fun h' hx'=>?_)))
 have I3:=I2.kept (h':=h') (t':=s1.toks) fun b o e=>hx' b o (Qt (Qj e)) e
 show Qr _ _ (PU [fun v=>Pm X.env z v,fun v=>Pm X.env y v,fun v=>Pm X.env x v] [u3,u2,u1] >>= fun _=>pure Me) _ _ _
 refine Qd (GM (Tt (XA I3 hN hk (.inl hz) rv3 (fun s2 I4=>?_) (.inr hz))))
 refine GM (Tt (XA I4 hN hj (.inl hy) rv2 (fun s3 I5=>?_) (.inr hy)))
 refine GM (Tt (XA I5 hN hi (.inl hx) rv1 (fun s4 I6=>Tr (Qk ?_)) (.inr hx)))
 rw [RG _ _ (GR hjk),RG _ _ (GR hik),RG _ _ (GR hij)] at I6
 exact ⟨_,H1,I6,q1⟩
theorem Zhf {X:Cx}{K:Qb}(hK:X.K=K):Xi X (GO .In) (rIn K false):=by subst hK;exact Wo
theorem ZdL {X:Cx}{K:Qb}(hK:X.K=K):Xi X (GO .NotIn) (rIn K true):=by subst hK;exact Vi
theorem VP {α β:Type}{f g:α->Option β}:∀{l:List α},(∀ x∈l,f x=g x)->l.filterMap f=l.filterMap g
 | [],_=>rfl
 | x::l,h=>by
  rw [filterMap_cons,filterMap_cons,h x mem_cons_self,VP fun y hy=>h y (mem_cons_of_mem _ hy)]
theorem ZkZ (its:List Qe):Mm its.toArray none none (some (-1))=its.reverse.toArray:=by
 have hb:JU none none (some (-1)) its.toArray.size=((its.length:Int) - 1,-1,-1):=by
  unfold JU
  simp
 unfold Mm
 rw [hb]
 have hr:Ro ((its.length:Int) - 1) (-1) (-1)=(Gs its.length).map fun k=>its.length - 1 - k:=by
  unfold Ro
  have e1:(if (-1:Int) > 0 then (if (its.length:Int) - 1 < -1 then (-1 - ((its.length:Int) - 1)+-1 - 1) / -1 else 0) else (if (its.length:Int) - 1 > -1 then ((its.length:Int) - 1 - -1 - -1 - 1) / (- -1) else 0)).toNat=its.length:=by
   rw [if_neg (by decide)]
   split
   ·rw [show (- -1:Int)=1 by decide,Om];omega
   ·omega
  dsimp only
  rw [e1]
  apply PQ
  intro k hk
  have:=mem_range.mp hk
  omega
 dsimp only
 rw [hr,Th]
 congr 1
 have gen:∀ (l:List Qe),(Gs l.length).filterMap ((fun i=>l[i]?) ∘ fun k=>l.length - 1 - k)=l.reverse:=by
  intro l
  have h1:(Gs l.length).filterMap ((fun i=>l[i]?) ∘ fun k=>l.length - 1 - k)=(Gs l.reverse.length).filterMap (fun k=>l.reverse[k]?):=by
   rw [length_reverse]
   refine VP fun k hk=>?_
   have hk':=mem_range.mp hk
   show l[l.length - 1 - k]?=l.reverse[k]?
   rw [Se hk']
  rw [h1]
  have g2:∀ (m:List Qe) (n:Nat),(Gs n).filterMap (fun k=>m[k]?)=m.take n:=by
   intro m n
   induction n with
   | zero=>simp
   | succ n ih =>
    rw [OB,Sc,ih,take_add_one]
    cases e:m[n]?<;>simp [e]
  rw [g2,take_of_length_le (Qh _)]
 have:=gen its
 simpa using this
def ZpS (K:Qb)(te:TE):TE:=fun σ H Q=>te σ H fun x H1=>∃ a xs,x=.ref a/\SqL K H1 a xs/\∀ p,H1 p=none->Q (.ref p) (upd H1 p (.lst xs.reverse))
section
variable {X:Cx}
theorem ZmI {e:Expr}{te:TE}{k:Nat}{pc pu p2 pos:Pos}(he:PE X e te):PE X (.Subscript e (.Slice none none (some (.UnaryOp .USub (.Constant (.int 1) k pc) pu)) p2) pos) (ZpS X.K te):=by
 intro pins s σ H Q I h
 refine Nz (Zt (he pins s σ H _ I h) fun v s1 ⟨x,H1,I1,r1,a,xs,ex,hx,q1⟩=>?_)
 subst ex
 cases r1
 refine Mx (Zt (Zz pins s1 σ H1 (fun o H2=>o=none/\H2=H1) I1 ⟨rfl,rfl⟩) fun vl s2 ⟨l,H2,I2,pl,el,eh⟩=>Zt (Zz pins s2 σ H2 (fun o H3=>o=none/\H3=H2) I2 ⟨rfl,rfl⟩) fun vu s3 ⟨u,H3,I3,pu',eu,eh'⟩=>?_)
 subst el eh eu eh'
 refine Zt (Zv (X:=X) (Vu UM Zc) pins s3 σ H3 (fun o H4=>o=some (-1)/\H4=H3) I3 ⟨_,rfl,_,rfl,rfl,rfl⟩) fun vst s4 ⟨o,H4,I4,ps,eo,eh4⟩=>?_
 subst eo eh4
 have I5:Inv X pins σ H4 { s4 with heap:=s4.heap.push { cls:=.type "slice",data:=.fields #[vl,vu,vst] } }:=I4.kept (t':=s4.toks) fun b ob q=>Qf _ q
 obtain ⟨its,r,ht,hz⟩:=I5.list hx
 have hlen:=r.length
 show Qr (QA X.prog X.w) X.A (RJ e (.Slice none none (some (.UnaryOp .USub (.Constant (.int 1) k pc) pu)) p2) (.ref a) (.ref s4.heap.objs.size)) (EP X pins σ Q) X.xe { s4 with heap:=s4.heap.push { cls:=.type "slice",data:=.fields #[vl,vu,vst] } }
 refine tail_any (ops:=[.ref a,.ref s4.heap.objs.size]) ht.isList.typeIs Rz.lookup ?_ (by with_unfolding_all rfl)
 refine RL ht.isList (NA ..) pl pu' ps (by decide) ?_ (by rw [size_toArray];omega)
 rw [ZkZ]
 refine ⟨.ref _,_,I5.laid (t':=s4.toks) (o:=.lst xs.reverse) (fun b ob q=>Qf _ q) (Qh _) ?_,rfl,q1 _ (I5.hok.fresh (Qh _))⟩
 exact ⟨by rw [length_reverse];exact hz,its.reverse,0,r.reverse,Qn _ rfl⟩
end
end L2
namespace L2
open PySem
theorem Sep.newE {Δ:Rs}{H H2:Hp}{o:HO}(S:Sep Δ H){p:Addr}(hp:H p=none)(e:upd H p o=H2):Sep ((p,Pt o)::Δ) H2:=e ▸ S.new hp o
theorem Zbg {lo:Int}{n:Nat}{te:TE}{σ:St}{D:Addr}{Q:VK}{H:Hp}{Δ:Rs}(hn:n<=Qi)(S:Sep Δ H)(hD:H D=none)(J:Nat->List V->Rs->Prop)(h0:J 0 [] Δ)
 (hs:∀ i ys Δ H,i < n->ys.length=i->J i ys Δ->Sep ((D,UU ys)::Δ) H->te (σ++[some (.int (lo+i))]) H fun y H4=>∃ Δ',J (i+1) (ys++[y]) Δ'/\Sep ((D,UU ys)::Δ') H4)
 (hd:∀ ys Δ H,J n ys Δ->ys.length=n->Sep ((D,UU ys)::Δ) H->Q (.ref D) H):Vs (Itr lo n) te σ D Q H:=by
 refine ⟨fun i m ys H=>m=n - i/\i<=n/\ys.length=i/\∃ Δ,J i ys Δ/\Sep ((D,UU ys)::Δ) H,⟨n,by simp,Qp _,rfl,Δ,h0,S.new hD _⟩,?_⟩
 rintro i m ys H2 ⟨rfl,hi,hl,Δ,j,S⟩
 by_cases hlt:i < n
 ·refine .inr ⟨hlt,_,fun y H4 (q:∃ Δ',J (i+1) (ys++[y]) Δ'/\Sep ((D,UU ys)::Δ') H4)=>?_,fun v H3 y=>?_⟩
  ·obtain ⟨Δ',j',S'⟩:=q
   exact ⟨S'.get D,by omega,n - (i+1),by omega,rfl,hlt,by simp [hl],Δ',j',S'.put D _⟩
  ·obtain ⟨e1,e2⟩:=y
   subst e1 e2
   exact hs i ys Δ _ hlt hl j S
 ·have e:i=n:=by omega
  exact .inl ⟨by show n<=i;omega,hd ys Δ H2 (e ▸ j) (by omega) S⟩
end L2
namespace L2
open PySem PySem.W PySem.Spec PyProof.Rows
section
variable {prog:Qm}{w:QC}{A:QK}{E:Qe->Qg->Prop}{s:Qg}{a:Addr}{as:List Addr}{ks:List Str}{P:Nd->Qg->Prop}
end
section
variable {X:Cx}
end
end L2
namespace L2
open PySem
def Yg (x:Str):Prop:=1<=x.length/\x.length<=8/\x.cps.toList.all US=true
theorem WW (c:Nat):(⟨#[c]⟩:Str).length=1:=rfl
theorem ZeX {P:Nat->Bool}:∀{l:List Str},(∀ z∈l,∃ c,z=⟨#[c]⟩/\P c=true)->(l.map (·.length)).sum=l.length/\(l.flatMap (·.cps.toList)).length=l.length/\(l.flatMap (·.cps.toList)).all P=true
 | [],_=>⟨rfl,rfl,rfl⟩
 | z :: r,h=>by
  obtain ⟨c,rfl,hc⟩:=h z mem_cons_self
  obtain ⟨g1,g2,g3⟩:=ZeX (l:=r) fun y hy=>h y (mem_cons_of_mem _ hy)
  refine ⟨?_,?_,?_⟩
  ·rw [map_cons,sum_cons,g1,length_cons];show 1+_=_;omega
  ·have e0:((⟨#[c]⟩:Str)::r).flatMap (·.cps.toList)=c::r.flatMap (·.cps.toList):=rfl
   rw [e0,length_cons,length_cons,g2]
  ·rw [flatMap_cons,all_append,g3];simp [hc]
theorem Zia {P:Nat->Bool}{zs:List Str}(h:∀ z∈zs,∃ c,z=⟨#[c]⟩/\P c=true):(zs.map (·.length)).sum+zs.length * (Qa "").length<=2 * zs.length/\(QM (Qa "") zs).length=zs.length/\(QM (Qa "") zs).cps.toList.all P=true:=by
 obtain ⟨g1,g2,g3⟩:=ZeX h
 refine ⟨?_,?_,?_⟩
 ·rw [g1];show _+_ * 0<=_;omega
 ·rw [Zq,UY,g2]
 ·rw [UY];exact g3
theorem Zbv {P:Nat->Bool}{x y:Str}(h1:x.cps.toList.all P=true)(h2:y.cps.toList.all P=true):(x++y).cps.toList.all P=true:=by
 rw [Xl,all_append,h1,h2];rfl
theorem ZdX {P:Nat->Bool}{c:Nat}(h:P c=true):(⟨#[c]⟩:Str).cps.toList.all P=true:=by
 show [c].all P=true;simp [h]
theorem Zcn {P:Nat->Bool}{x:Str}{lo hi:Option Int}(h:x.cps.toList.all P=true):(Qs x lo hi).cps.toList.all P=true:=by
 rw [YY]
 rw [all_eq_true] at h ⊢
 exact fun c hc=>h c (JC (mem_of_mem_take hc))
theorem ZhE {x:Str}{k:Int}(h0:0<=k)(h1:k<=x.length):(Qs x none (some k)).length+(Qs x (some k) none).length=x.length:=by
 have hn:¬ k < 0:=by omega
 rw [Zq,Zq,YY,YY,Zq]
 rw [Zq] at h1
 have e1:HT.sIx x.cps.toList.length 0 none=0:=rfl
 have e2:HT.sIx x.cps.toList.length x.cps.toList.length none=x.cps.toList.length:=rfl
 have e3:∀ d,HT.sIx x.cps.toList.length d (some k)=k.toNat:=fun d=>by
  unfold HT.sIx
  simp only [hn,if_false]
  omega
 rw [e1,e2,e3,e3,length_take,length_take,length_drop,length_drop]
 omega
theorem ZcJ {x:Str}{P:Nat->Bool}(ha:x.cps.toList.all P=true){r:Int}(h0:0<=r)(h1:r < x.length):∃ c,Xn x.cps.toList r=some c/\P c=true:=by
 have hl:r.toNat < x.cps.toList.length:=by rw [<- Zq];omega
 exact ⟨_,Zce h0 (getElem?_eq_getElem hl),all_eq_true.mp ha _ (Pz hl)⟩
def a26:Str:="abcdefghijklmnopqrstuvwxyz"
theorem UZ:a26.length=26:=by decide +kernel
theorem ZcB:a26.cps.toList.all US=true:=by decide +kernel
theorem WI {α:Type}{f:α->V}{xs:List α}{r:Int}(h0:0<=r)(h1:r < (xs.length:Int)):∃ x∈xs,Xn (xs.map f) r=some (f x):=by
 have hl:r.toNat < xs.length:=by omega
 exact ⟨_,Pz hl,Zce h0 (by rw [getElem?_map,getElem?_eq_getElem hl];rfl)⟩
theorem ZlO {xs:List V}{r:Int}(h0:0<=r)(h1:r < (xs.length:Int)):∃ x∈xs,Xn xs r=some x:=by
 have hl:r.toNat < xs.length:=by omega
 exact ⟨_,Pz hl,Zce h0 (getElem?_eq_getElem hl)⟩
theorem Sep.le {Δ:Rs}{H:Hp}{p:Addr}{n m:Nat}(S:Sep ((p,Bx n)::Δ) H)(h:n<=m):Sep ((p,Bx m)::Δ) H:=by
 obtain ⟨g,l,r,S⟩:=S
 exact ⟨g,l,BoxAt.le r h,S⟩
def Zbp:Sp:=fun vs H Q _=>∃(p:Addr)(n:Nat)(Δ:Rs),vs=[.ref p]/\Sep ((p,Bx n)::Δ) H/\n<=900000/\∀(v:V)(H':Hp),IsVal v->Sep ((p,Bx (n+50))::Δ) H'->Q v H'
theorem Zmh {vs:List V}{H:Hp}{Q:VK}{E:XK}(h:Zbp vs H Q E):ZfK vs H Q E:=by
 obtain ⟨p,n,Δ,e,S,h1,q⟩:=h
 exact ⟨p,n,e,S.get p,h1,fun v H' hv B k=>q v H' hv (S.box k B)⟩
def ZeY (K:Qb):Sp:=fun vs H Q _=>∃(a:Addr)(ns:List Int)(k:Int)(Δ:Rs),vs=[.ref a,.int k]/\SqL K H a (ns.map V.int)/\Sep Δ H/\0<=k/\k<=1000/\∀(p:Addr)(H':Hp),Same H H'->Sep ((p,Bx 0)::Δ) H'->Q (.ref p) H'
theorem Zpi {K:Qb}{vs:List V}{H:Hp}{Q:VK}{E:XK}(h:ZeY K vs H Q E):Zlu K vs H Q E:=by
 obtain ⟨a,ns,k,Δ,e,hS,S,h1,h2,q⟩:=h
 refine ⟨a,ns,k,e,hS,h1,h2,fun p H' hp B s=>q p H' s ?_⟩
 obtain ⟨x,y,z,eb,w⟩:=B
 exact (S.made s hp eb).say p (Bx 0) fun h r=>⟨x,y,z,r,w⟩
theorem Vf {xs:List V}{i:Nat}:Xk xs none (some (i:Int))=xs.take i:=by
 unfold Xk
 rw [HT.sIx_none,HT.sIx_nat,drop_zero,SX]
 by_cases h:i<=xs.length
 ·rw [Jd h]
 ·rw [JO (by omega),take_of_length_le (Qh _),take_of_length_le (by omega)]
theorem Zai {xs:List V}{i:Nat}:Xk xs (some (i:Int)) none=xs.drop i:=by
 unfold Xk
 rw [HT.sIx_none,HT.sIx_nat]
 by_cases h:i<=xs.length
 ·rw [Jd h,take_of_length_le (by rw [length_drop];omega)]
 ·rw [JO (by omega),TL,take_zero,List.drop_eq_nil_of_le (by omega)]
theorem ZlP {x:Str}{ys:List Str}:YL (.str x) (ys.map V.str)=decide (x∈ys):=by
 unfold YL
 induction ys with
 | nil=>rfl
 | cons y ys ih =>
  rw [map_cons,any_cons,ih]
  show ((y == x) || decide (x∈ys))=decide (x∈y::ys)
  by_cases h:y=x
  ·subst h;simp
  ·rw [show (y == x)=false from beq_eq_false_iff_ne.mpr h,Nq]
   congr 1
   simp [mem_cons,GR h]
theorem Zax (ys:List Str):(ys.map V.str).all WL=true:=by
 rw [all_eq_true]
 intro v hv
 obtain ⟨y,_,rfl⟩:=SY.mp hv
 rfl
class IsLst (R:Wr) (k:Nat):Prop where
 lst:∀ {a h},R a h->∃ xs,h a=some (.lst xs)/\xs.length=k
theorem ZcX {i:Int}(h:i.natAbs<=10 ^ 31):i.natAbs.log2 < 1920/\(Qa (Gn i)).length<=40:=by
 constructor
 ·by_cases z:i.natAbs=0
  ·rw [z];decide
  ·exact (Mz z).mpr (JY h (by decide +kernel))
 ·have e:=int_text_length_le10 (a:=i) (k:=32) (by decide) (JY h (by decide))
  rw [Zq,SZ,length_map,String.length_toList]
  omega
def VW:V->Ji
 | .int i=>.int i
 | .str x=>.str x
 | _=>.none
def some_of (H:Hp)(L:List Addr):Hp:=fun b=>if b∈L then H b else match H b with
 | some o=>if Wj o=true then none else some o
 | none=>none
theorem ZfH {H:Hp}{L:List Addr}:Same (some_of H L) H:=fun b o e=>by
 unfold some_of at e
 split at e
 ·exact e
 ·split at e
  ·rename_i o' h'
   split at e
   ·cases e
   ·cases e;exact h'
  ·cases e
theorem Zgf {H:Hp}{L:List Addr}{b:Addr}{o:HO}(e:H b=some o)(m:Wj o=false):some_of H L b=some o:=by
 unfold some_of
 split
 ·exact e
 ·simp only [e,m,JZ,if_false]
theorem ZeE {H:Hp}{L:List Addr}{b:Addr}{o:HO}(e:some_of H L b=some o)(m:Wj o=true):b∈L:=by
 unfold some_of at e
 split at e
 ·assumption
 ·split at e
  ·split at e
   ·cases e
   ·rename_i h;cases e;exact absurd m h
  ·cases e
theorem Sep.updR {Δ Δ':Rs}{H:Hp}{R T:Wr}(S:Sep Δ H)(a:Addr)(o':HO)[P:Pull a Δ R Δ'](m:∀ h,R a h->∃ o,h a=some o/\Wj o=true)
 (f:∀ h,R a h->Same h H->∀ h',h' a=some o'->(∀ b o,b≠a->h b=some o->h' b=some o)->(∀ b o,b≠a->H b=some o->Wj o=false->h' b=some o)->T a h'):Sep ((a,T)::Δ') (upd H a o'):=by
 obtain ⟨h,l,r,S⟩:=P.out S
 obtain ⟨o,ea,ma⟩:=m h r
 refine ⟨fun b=>if b=a then some o' else match h b with | some u=>some u | none=>some_of H [] b,fun b u e=>?_,f h r l _ (if_pos rfl) (fun b u nb e=>?_) (fun b u nb e mu=>?_),S.mono fun b u e=>?_⟩
 ·dsimp only at e
  by_cases hb:b=a
  ·rw [if_pos hb] at e;cases e;rw [hb];exact Ze
  ·rw [if_neg hb] at e
   rw [Zn hb]
   cases q:h b with
   | some z=>rw [q] at e;cases e;exact l _ _ q
   | none=>rw [q] at e;exact ZfH _ _ e
 ·rw [if_neg nb,e]
 ·rw [if_neg nb]
  cases q:h b with
  | some z=>have:=l _ _ q;rw [e] at this;cases this;rfl
  | none=>exact Zgf e mu
 ·obtain ⟨e1,e2⟩:=cut_some.mp e
  have hb:b≠a:=fun z=>by have:=e2 o (by rw [z];exact ea);rw [ma] at this;cases this
  refine cut_some.mpr ⟨by rw [Zn hb];exact e1,fun v q=>?_⟩
  simp only [if_neg hb] at q
  cases z:h b with
  | some x=>rw [z] at q;cases q;exact e2 _ z
  | none =>
   rw [z] at q
   cases mm:Wj v with
   | false=>rfl
   | true=>have:=ZeE q mm;cases this
theorem Sep.im {Δ:Rs}{H:Hp}{a:Addr}{R T:Wr}[U:Up R](S:Sep ((a,R)::Δ) H)(f:∀ h,R a h->Same h H->(∀ b o,H b=some o->Wj o=false->h b=some o)->T a h):Sep ((a,T)::Δ) H:=by
 obtain ⟨h,l,r,S⟩:=S
 have s1:Same h fun b=>match h b with | some o=>some o | none=>some_of H [] b:=fun b o e=>by simp only [e]
 have le:Same (fun b=>match h b with | some o=>some o | none=>some_of H [] b) H:=fun b o e=>by
  dsimp only at e
  cases q:h b with
  | some z=>rw [q] at e;cases e;exact l _ _ q
  | none=>rw [q] at e;exact ZfH _ _ e
 refine ⟨_,le,f _ (U.up r s1) le fun b o e m=>?_,S.mono fun b o e=>?_⟩
 ·cases q:h b with
  | some z=>have:=l _ _ q;rw [e] at this;cases this;rfl
  | none=>exact Zgf e m
 ·obtain ⟨e1,e2⟩:=cut_some.mp e
  refine cut_some.mpr ⟨e1,fun u q=>?_⟩
  try dsimp only at q
  cases z:h b with
  | some x=>rw [z] at q;cases q;exact e2 _ z
  | none =>
   rw [z] at q
   cases mm:Wj u with
   | false=>rfl
   | true=>have:=ZeE q mm;cases this
theorem Zld {x:Str}(h:Yg x):IsVal (.str x):=by
 refine ⟨by have:=h.2.1;omega,?_⟩
 rw [all_eq_true]
 intro c hc
 have:=all_eq_true.mp h.2.2 c hc
 unfold US at this
 unfold Yz
 simp only [QL,decide_eq_true_eq] at this ⊢
 omega
end L2
namespace L2
open PySem PySem.Spec PyProof.Rows
def Itz (K:Qb)(l1 l2:Addr):It :=
 ⟨fun i H=>∃ xs ys x y,SqL K H l1 xs/\SqL K H l2 ys/\xs[i]?=some x/\ys[i]?=some y,
  fun i H v H'=>∃ t x y,H t=none/\(∀ xs,SqL K H l1 xs->xs[i]?=some x)/\(∀ ys,SqL K H l2 ys->ys[i]?=some y)/\v=.ref t/\H'=upd H t (.tup [x,y]),
  fun i H=>∃ xs ys,SqL K H l1 xs/\SqL K H l2 ys/\(xs.length<=i\/ys.length<=i)⟩
theorem Zkb {P:Qm}{w:QC}{K:Qb}{elts:List Expr}{x1:Nat}{tp:Pos}{z TI TO i1 i2 l1 l2:Addr}(D:Rq z TI TO i1 i2 l1 l2)(hTl1:l1≠TI)(hTl2:l2≠TI) :
 Ub P w K (.Tuple elts x1 tp) (Itz K l1 l2) [z,TI,TO,i1,i2] z (fun i h=>JP h z TI TO .none/\GE h TI (.ref i1) (.ref i2)/\(∃ a b,GE h TO a b)/\h.IsListIter i1 l1 i/\h.IsListIter i2 l2 i) where
 mem:=by simp
 obj:=fun i h st b hb=>by
  obtain ⟨hz,hTI,⟨a,c,hTO⟩,⟨o1,ho1,c1,d1⟩,⟨o2,ho2,c2,d2⟩⟩:=st
  simp only [mem_cons,not_mem_nil,or_false] at hb
  rcases hb with q | q | q | q | q
  ·rw [q];exact ⟨_,hz,fun v z=>by cases z⟩
  ·rw [q];exact ⟨_,hTI,fun v z=>by cases z⟩
  ·rw [q];exact ⟨_,hTO,fun v z=>by cases z⟩
  ·rw [q];exact ⟨o1,ho1,fun v z=>by rw [d1] at z;cases z⟩
  ·rw [q];exact ⟨o2,ho2,fun v z=>by rw [d2] at z;cases z⟩
 keep:=fun i h h' st k=>by
  obtain ⟨hz,hTI,⟨a,c,hTO⟩,h1,h2⟩:=st
  exact ⟨k z (by simp) _ hz,k TI (by simp) _ hTI,⟨a,c,k TO (by simp) _ hTO⟩,h1.at fun o y=>k i1 (by simp) o y,h2.at fun o y=>k i2 (by simp) o y⟩
 item:=by
  intro X hP hw hK hc i pins s σ H E I hf st hg
  subst hP hw hK
  obtain ⟨hz,hTI,⟨a,b,hTO⟩,h1,h2⟩:=st
  obtain ⟨xs,ys,x,y,hq1,hq2,hx,hy⟩:=hg
  obtain ⟨its1,rv1,p1,hz1⟩:=I.list hq1
  obtain ⟨its2,rv2,p2,hz2⟩:=I.list hq2
  obtain ⟨u1,hu1,ru1⟩:=rv1.get hx
  obtain ⟨u2,hu2,ru2⟩:=rv2.get hy
  refine wpAny_pyNext_zip_item D hz hTI hTO h1 h2 p1.isList p2.isList (by simpa using hu1) (by simpa using hu2) fun h' g1 g2 g3 g4 g5 g6 g7=>?_
  refine ⟨_,rfl,PM g1 fun h2' g1' hs2=>?_⟩
  have hzl:z < s.heap.objs.size:=Qj hz
  have hTIl:TI < s.heap.objs.size:=Qj hTI
  have hTOl:TO < s.heap.objs.size:=Qj hTO
  have hi1l:i1 < s.heap.objs.size:=by obtain ⟨o,ho,_⟩:=h1;exact Qj ho
  have hi2l:i2 < s.heap.objs.size:=by obtain ⟨o,ho,_⟩:=h2;exact Qj ho
  have g5':h'.get? s.heap.objs.size=some ({ cls:=.type "tuple",data:=.seq #[u1,u2] }:Obj):=g5
  generalize hO:({ cls:=.type "tuple",data:=.seq #[u1,u2] }:Obj)=O at g5'
  have I1:Inv X pins σ (upd H s.heap.objs.size (.tup [x,y])) { s with heap:=s.heap.push O,toks:=s.toks }:=by
   refine I.laid (t':=s.toks) (fun b o y=>Qf _ y) (Qh _) (show ObjOk X.prog X.w _ _ _ (.tup _) from ⟨by show 2<=Qi;decide,[u1,u2],.cons ru1 (.cons ru2 .nil),?_⟩)
   rw [<- hO];exact Px _ _
  have hfree:=I.hok.fresh (Qh s.heap.objs.size)
  have hf2:∀ b∈[z,TI,TO,i1,i2],YM X pins (upd H s.heap.objs.size (.tup [x,y])) b:=fun b hb=>by
   obtain ⟨f0,f1⟩:=hf b hb
   have hb':b≠s.heap.objs.size:=by
    simp only [mem_cons,not_mem_nil,or_false] at hb
    rcases hb with q | q | q | q | q<;>(rw [q];exact Qt (by assumption))
   exact ⟨by rw [Zn hb'];exact f0,f1⟩
  have I2:Inv X pins σ (upd H s.heap.objs.size (.tup [x,y])) { s with heap:=h2',toks:=s.toks }:=by
   refine I1.turned2 (t':=s.toks) (h':=h2') (fun b o hb y=>?_) hf2
   have n1:b≠z:=fun q=>hb (by simp [q])
   have n2:b≠TO:=fun q=>hb (by simp [q])
   have n3:b≠i1:=fun q=>hb (by simp [q])
   have n4:b≠i2:=fun q=>hb (by simp [q])
   rw [hs2.2 b n1]
   rcases JB y with ⟨q1,q2⟩ | y
   ·rw [q1,q2];exact g5'
   ·exact g7 b o n1 n2 n3 n4 y
  refine ⟨.ref s.heap.objs.size,_,I2,rfl,⟨s.heap.objs.size,x,y,hfree,fun ys hy'=>by rw [I.list_inj hy' hq1];exact hx,fun ys' hy'=>by rw [I.list_inj hy' hq2];exact hy,rfl,rfl⟩,⟨g1',?_,⟨u1,u2,?_⟩,?_,?_⟩,fun b hb=>(hf2 b hb).1⟩
  ·show h2'.get? TI=_
   rw [hs2.2 TI D.TIz];exact g7 TI _ D.TIz D.TITO D.TIi1 D.TIi2 hTI
  ·show h2'.get? TO=_
   rw [hs2.2 TO D.TOz];exact g2
  ·exact g3.at fun o y=>by rw [hs2.2 i1 D.i1z];exact y
  ·exact g4.at fun o y=>by rw [hs2.2 i2 D.i2z];exact y
 done:=by
  intro X hP hw hK hc i pins s σ H E I hf st hg
  subst hP hw hK
  obtain ⟨hz,hTI,⟨a,b,hTO⟩,h1,h2⟩:=st
  obtain ⟨xs,ys,hq1,hq2,hle⟩:=hg
  obtain ⟨its1,rv1,p1,hz1⟩:=I.list hq1
  obtain ⟨its2,rv2,p2,hz2⟩:=I.list hq2
  have l1:=rv1.length
  have l2:=rv2.length
  refine wpAny_pyNext_zip_end (I.ok.hd hc) D hz hTI hTO h1 h2 p1.isList p2.isList ?_ fun h' eb=>⟨rfl,I.turned2 (t':=s.toks) (fp:=[z,TI,TO,i1,i2]) (fun b o hb y=>eb b o (fun q=>hb (by simp [q])) (fun q=>hb (by simp [q])) (fun q=>hb (by simp [q])) (fun q=>hb (by simp [q])) y) hf⟩
  rcases hle with q | q
  ·exact .inl (Jf (by simp;omega))
  ·exact .inr (Jf (by simp;omega))
 self:=fun _ _ _ _ _ st h=>JQ st.1 h
def iZip (K:Qb)(ta tb:TE):TI:=fun σ H R=>ta σ H fun v H1=>tb σ H1 fun u H2=>∃ a b xs ys,[v,u]=[V.ref a,V.ref b]/\H2 a=some (.lst xs)/\H2 b=some (.lst ys)/\R (Itz K a b) H2
section
variable {X:Cx}
theorem ZbM:Pu "zip"=some (.type "zip"):=by decide +kernel
theorem Zjk {l m:Expr}{ta tb:TE}{elts:List Expr}{x1:Nat}{tp p pos:Pos}(hg:Gl X "zip")(hm:X.mg "zip"=none)(hl:PE X l ta)(hr:PE X m tb)
 (he:QH [l,m] X.env=(false,eval l X.env)::QH [m] X.env:=by rfl) (he2:QH [m] X.env=[(false,eval m X.env)]:=by rfl) (hpl:(Jp pos (QH [m] X.env)).any (·.1)=false:=by rfl):PI X (.Tuple elts x1 tp) (.Call (.Name "zip" p) [l,m] [] pos) (iZip X.K ta tb):=by
 intro pins s σ H R I h
 have ha:PA X [l,m] (Xa ta (Xa tb Xf)):=YC hl (YC hr Za he2) he
 refine Gc (Ug I hg hm ZbM ?_)
 refine Gw (Zt (ha pos pins s σ H (fun vs H2=>∃ a b xs ys,vs=[V.ref a,V.ref b]/\H2 a=some (.lst xs)/\H2 b=some (.lst ys)/\R (Itz X.K a b) H2) I h) fun us s1 ⟨vs,H1,I1,r1,a,b,xs,ys,e,ea,eb,q⟩=>?_) he hpl
 subst e
 obtain ⟨u1,u2,rfl,r2,r3⟩:∃ u1 u2,us=[u1,u2]/\RelV (V.ref a) u1/\RelV (V.ref b) u2:=by
  cases r1 with
  | cons p t=>cases t with
   | cons p2 t2=>cases t2;exact ⟨_,_,rfl,p,p2⟩
 cases r2
 cases r3
 obtain ⟨z1,its1,n1,rv1,hl1,eo1⟩:=I1.lstM ea
 obtain ⟨z2,its2,n2,rv2,hl2,eo2⟩:=I1.lstM eb
 have ha1:a < s1.heap.objs.size:=Qj eo1
 have hb1:b < s1.heap.objs.size:=Qj eo2
 refine call_zip_2 ⟨_,eo1,rfl,n1,rfl⟩ ⟨_,eo2,rfl,n2,rfl⟩ fun h' g1 g2 g3 g4 g5 g6 g7=>JQ g1 ?_
 refine ⟨s1.heap.objs.size+4,[s1.heap.objs.size+4,s1.heap.objs.size+2,s1.heap.objs.size+3,s1.heap.objs.size,s1.heap.objs.size+1],_,_,H1,rfl,I1.kept (t':=s1.toks) g7,Zkb (l1:=a) (l2:=b) ⟨?_,?_,?_,?_,?_,?_,?_,?_,?_,?_,?_,?_,?_,?_,?_,?_,?_,?_⟩ ?_ ?_,⟨g1,g2,⟨_,_,g3⟩,g4,g5⟩,fun c hc=>?_,q⟩
 rotate_right
 ·simp only [mem_cons,not_mem_nil,or_false] at hc
  have up:∀ k,YM X pins H1 (s1.heap.objs.size+k):=fun k=>I1.fpOk (Gp _ k) (I1.hok.fresh (Gp _ k))
  rcases hc with q | q | q | q | q
  ·rw [q];exact up 4
  ·rw [q];exact up 2
  ·rw [q];exact up 3
  ·rw [q];exact up 0
  ·rw [q];exact up 1
 all_goals
  first
   | exact Qt (by first | (apply QB (by assumption);omega) | (simp only [GP];decide) | (show _ < _+_;exact GQ (by decide)))
   | exact GY (by first | (simp only [GP];decide) | exact GQ (by decide))
end
mutual
inductive DatT (K:Qb)(H:Hp):V->Ji->Prop
 | non:DatT K H .non .none
 | int (i):DatT K H (.int i) (.int i)
 | str (x):DatT K H (.str x) (.str x)
 | tup {a xs ds}:SqT K H a xs->DatTs K H xs ds->DatT K H (.ref a) (.tuple ds)
inductive DatTs (K:Qb)(H:Hp):List V->List Ji->Prop
 | nil:DatTs K H [] []
 | cons {v d vs ds}:DatT K H v d->DatTs K H vs ds->DatTs K H (v::vs) (d::ds)
end
section
variable {X:Cx}{pins:List (Addr×Obj)}{σ:St}{H:Hp}{s:Qg}
mutual
theorem DatT.reads (I:Inv X pins σ H s):∀{v d}(u:Qe),DatT X.K H v d->RelV v u->d.hasDict=false/\∃ as,Reads s.heap u d as
 | _,_,u,.non,r=>by cases (show u=.none from r);exact ⟨rfl,_,.none⟩
 | _,_,u,.int i,r=>by obtain ⟨t,e⟩:=(show ∃ t,u=.int i t from r);subst e;exact ⟨rfl,_,.int i t⟩
 | _,_,u,.str x,r=>by obtain ⟨t,e⟩:=(show ∃ t,u=.str x t from r);subst e;exact ⟨rfl,_,.str x t⟩
 | _,_,u,.tup (a:=a) (xs:=xs) e q,r=>by
  cases (show u=.ref a from r)
  obtain ⟨its,rv,⟨o,g,c,n,d⟩,_⟩:=I.tuple e
  obtain ⟨nd,as,ra⟩:=DatTs.reads I its q rv
  exact ⟨by simpa [TH] using nd,_,.tuple g c d (by simpa using ra)⟩
theorem DatTs.reads (I:Inv X pins σ H s):∀{vs ds}(us:List Qe),DatTs X.K H vs ds->Vals vs us->Jz ds=false/\∃ as,ReadsAll s.heap us ds as
 | _,_,_,.nil,.nil=>⟨rfl,_,.nil⟩
 | _,_,_,.cons r t,.cons rv tv=>by
  obtain ⟨n1,as,r1⟩:=DatT.reads I _ r rv
  obtain ⟨n2,bs,r2⟩:=DatTs.reads I _ t tv
  exact ⟨by simp [Jz,n1,n2],_,.cons r1 r2⟩
end
end
end L2
namespace L2
open PySem
end L2
namespace L2
open PySem PySem.W PySem.Spec PyProof.Rows
section
variable {X:Cx}
end
end L2
namespace L2
open PySem
def tCut (t u:TS):TS:=fun D σ H=>∃ I:St->Hp->Prop,t { D with nx:=I } σ H/\∀ σ' H',I σ' H'->u D σ' H'
theorem Xq {X:Cx}{st:Stmt}{rest:List Stmt}{t u:TS}(h1:PS X st t)(h2:PSs X rest u):PSs X (st::rest) (tCut t u):=by
 intro pins s σ H D I h
 obtain ⟨J,h,g⟩:=h
 refine Pw (Zt (h1 pins s σ H { D with nx:=J } I h) fun f s1 q=>?_)
 cases f with
 | next =>
  obtain ⟨σ',H',I',q⟩:=q
  exact h2 pins s1 σ' H' D I' (g _ _ q)
 | ret v=>exact q
 | brk=>exact q
 | cont=>exact q
end L2
namespace L2
open PySem PySem.Spec PyProof.Rows
section
variable {X:Cx}{pins:List (Addr×Obj)}{σ:St}{H:Hp}{s:Qg}{d:Addr}{o:Obj}{kvs:List (Ys×V)}
end
section
variable {X:Cx}{tg:Expr}
end
end L2
namespace L2
open PySem PySem.W PySem.Spec PyProof.Rows
section
variable {X:Cx}
theorem WN:Xe X (.type "int") (fun xs H Q=>∃ (x:Str) (n:Int),xs=[.str x]/\Pr x=some n/\x.length<=640/\Q (.int n) H):=by
 intro pins s σ H xs us Q I r h
 obtain ⟨x,n,rfl,e,hl,q⟩:=h
 obtain ⟨u,rfl,t,rfl⟩:=YU r
 exact PySem.W.KIN.call_text e hl ⟨.int n,H,I.tok _,⟨_,rfl⟩,q⟩
end
end L2
namespace L2
open PySem
def Vt (m:Nat):List Nat:=(Nat.toDigits 10 m).map Char.toNat
theorem Zco {m c:Nat}(h:c∈Vt m):48<=c/\c<=57:=by
 obtain ⟨ch,hch,e⟩:=SY.mp h
 have r:=PyProof.Rows.digit_range (Nat.isDigit_of_mem_toDigits (by decide) (by decide) hch)
 rw [<- e];exact r
theorem Zdx (i:Int):∃ m:Nat,((Qa (Gn i)).cps.toList=Vt m/\i=m)\/((Qa (Gn i)).cps.toList=45::Vt m/\i=-(m:Int)):=by
 cases i with
 | ofNat m=>exact ⟨m,.inl ⟨PySem.W.KIN.signs_num m,rfl⟩⟩
 | negSucc m =>
  refine ⟨m+1,.inr ⟨?_,by omega⟩⟩
  rw [SZ]
  show ("-"++Nat.repr (m+1)).toList.map Char.toNat=_
  rw [String.toList_append,map_append,Nat.toList_repr]
  rfl
theorem Ziu {i:Int}{c:Nat}(h:c∈(Qa (Gn i)).cps.toList):c=45\/(48<=c/\c<=57):=by
 obtain ⟨m,⟨e,_⟩ | ⟨e,_⟩⟩:=Zdx i
 ·rw [e] at h;exact .inr (Zco h)
 ·rw [e] at h
  rcases mem_cons.mp h with h | h
  ·exact .inl h
  ·exact .inr (Zco h)
theorem ZfC (m:Nat):TM (Vt m)=m:=PySem.W.KIN.val_back m
theorem Zfr {m k:Nat}(h:m < 10 ^ (k+1)):(Vt m).length<=k+1:=by
 unfold Vt
 rw [length_map]
 exact (Nat.length_toDigits_le_iff (by decide) (by omega)).mpr h
end L2
namespace L2
open PySem PySem.W PySem.Spec PyProof.Rows
section
variable {X:Cx}
end
end L2
namespace L2
open PySem PySem.Spec PyProof.Rows
theorem Ziq {K:Qb}{a:Addr}{xs:List V}{g:TG}{tb:TS}{D:Uz}{σ:St}{H:Hp}(Pv:Nat->St->Hp->Prop)(h0:Pv 0 σ H)(hl:∀ i σ H,i<=xs.length->Pv i σ H->SqL K H a xs)
 (hs:∀ i x t σ H,xs[i]?=some x->H t=none->Pv i σ H->g (.ref t) σ (upd H t (.tup [.int (i:Int),x])) fun σ2 H2=>tb { D with nx:=Pv (i+1),ct:=Pv (i+1),bk:=D.nx } σ2 H2) (hd:∀ σ H,Pv xs.length σ H->D.nx σ H) :
 ∃ W:Nat->Nat->St->Hp->Prop,(∃ m,W 0 m σ H)/\∀ i m σ H,W i m σ H ->
  ((ZcM K a).stop i H/\D.nx σ H)\/((ZcM K a).go i H/\∃ N:St->Hp->Prop,(∀ σ' H',N σ' H'->∃ m',m' < m/\W (i+1) m' σ' H')/\∀ y H',(ZcM K a).yld i H y H'->g y σ H' fun σ2 H2=>tb { D with nx:=N,ct:=N,bk:=D.nx } σ2 H2):=by
 refine ⟨fun i m σ H=>m=xs.length - i/\i<=xs.length/\Pv i σ H,⟨xs.length,by simp,Qp _,h0⟩,?_⟩
 rintro i m σ H ⟨rfl,hi,p⟩
 have q:=hl i σ H hi p
 by_cases hlt:i < xs.length
 ·refine .inr ⟨⟨xs,xs[i],q,by simp [hlt]⟩,Pv (i+1),fun σ' H' z=>⟨xs.length - (i+1),by omega,rfl,hlt,z⟩,fun y H' hy=>?_⟩
  obtain ⟨t,x,ht,hx,rfl,rfl⟩:=hy
  exact hs i x t σ H (hx xs q) ht p
 ·have e:i=xs.length:=by omega
  subst e
  exact .inl ⟨⟨xs,q,Qh _⟩,hd σ H p⟩
inductive Pg where
 | set (x:Str) (v:V) (s:Str)
 | look (x:Str)
 | slot (w s:Str)
 | pass
 | blk (w:Str) (ps:List Pg)
 | inn (s:Str) (ps:List Pg)
def Pg.word:Pg->Str
 | .set _ _ _=>"set"
 | .look _=>"look"
 | .slot w _=>w
 | .pass=>"pass"
 | .blk w _=>w
 | .inn _ _=>"in"
def Pg.inner:Pg->List Pg
 | .blk _ ps=>ps
 | .inn _ ps=>ps
 | _=>[]
mutual
def Pg.many:Pg->Nat
 | .blk _ ps=>1+Pg.manys ps
 | .inn _ ps=>1+Pg.manys ps
 | _=>1
def Pg.manys:List Pg->Nat
 | []=>0
 | p::ps=>p.many+Pg.manys ps
end
theorem Pg.many_eq (p:Pg):p.many=1+Pg.manys p.inner:=by
 cases p<;>rfl
end L2
namespace L2
open PySem PySem.Spec PyProof.Rows PyProof.Rows.KTD
def KTup (K:Qb)(b:Addr)(xs:List V):Prop:=∃ (o:Obj) (its:Array Qe) (n:Nat),K.lookup b=some o/\o.cls=.type "tuple"/\o.data=.seq its n/\its.size<=Qi/\Vals xs its.toList
theorem KTup.sq {K:Qb}{b:Addr}{xs:List V}{H:Hp}(h:KTup K b xs):SqT K H b xs:=.inr h
def KDic (K:Qb)(d:Addr)(D:List (Str×List V)):Prop:=(d == Jh)=false/\∃ o es ep,K.lookup d=some o/\o.ExactDict/\o.data=.dict es ep/\KTD.Rows (fun xs v=>∃ b,v=Qz b/\KTup K b xs) es.toList D
theorem KDic.tab {K:Qb}{d:Addr}{D:List (Str×List V)}{h:Heap}(T:KDic K d D)(k:K.In h):KTD.TabOf (fun xs v=>∃ b,v=Qz b/\KTup K b xs) h d D:=let ⟨a,o,es,ep,e,r⟩:=T;⟨a,o,es,ep,k _ _ e,r⟩
section
variable {δ:Type}{Rr:δ->Qe->Prop}{prog:Qm}{w:QC}{A:QK}{E:Qe->Qg->Prop}{s:Qg}{a:Addr}{D:List (Str×δ)}{k:Str}{tk:Tok}
theorem Zjy {Q:Option Qe->Qg->Prop}(T:TabOf Rr s.heap a D)(h1:∀ d v,datumAt k D=some d->Rr d v->Q (some v) { s with toks:=s.toks+1 })(h2:datumAt k D=none->Q none { s with toks:=s.toks+1 }) :
 Qr (QA prog w) A (dictGet a (.str k tk)) Q E s:=by
 obtain ⟨_,o,es,ep,ho,hc,hd,hr⟩:=T
 unfold dictGet
 try with_reducible refine GI ?_
 refine Qd (Md (Qd (kt_dictFind_strs (s:={ s with toks:=s.toks+1 }) ho hd (by obtain ⟨l⟩:=es;simpa using hr.exact) ?_)))
 have hq:Q (findBy (fun k v=>v.isStr k) es k) { s with toks:=s.toks+1 }:=by
  have hf:findBy (fun k v=>v.isStr k) es k=(es.toList.find? fun e=>e.key.isStr k).map (·.val):=by
   obtain ⟨l⟩:=es
   simp [findBy]
  rw [hf]
  cases hat:datumAt k D with
  | some d=>obtain ⟨v,hv,hfl⟩:=hr.find_some hat;rw [hv];exact h1 d v hat hfl
  | none=>rw [hr.find_none hat];exact h2 hat
 rw [findBy_of_findIdx?] at hq
 cases hi:es.findIdx? fun e=>e.key.isStr k with
 | none=>rw [hi] at hq;exact Qk hq
 | some i=>rw [hi] at hq;exact Qd (wpAny_dictEntries (s:={ s with toks:=s.toks+1 }) ho hd (Qk hq))
theorem Zgi:MeetsIn prog w (Tb.«dict.get» ⟨[.ref a,.str k tk],[]⟩) (fun _ R s=>TabOf Rr s.heap a D/\(∀ d v,datumAt k D=some d->Rr d v->R (.ok (.ret v)) { s with toks:=s.toks+1 })/\(datumAt k D=none->R (.ok (.ret .none)) { s with toks:=s.toks+1 })) :=
 .of_wp fun A R s ⟨T,h1,h2⟩=>by
  show Qr _ _ (dictGet a (.str k tk) >>= _) _ _ s
  refine Qd (Zjy T (fun d v ha hv=>Qk ⟨v,rfl,h1 d v ha hv⟩) fun hn=>?_)
  show Qr _ _ (Builtin.Dict.missed a (.str k tk) >>= _) _ _ _
  exact Qd (wpAny_missed_other T.1 (Qk ⟨.none,rfl,h2 hn⟩))
end
def Zlv (K:Qb)(D:List (Str×List V))(te:TE):TE:=fun σ H Q=>te σ H fun y H1=>∃ x,y=.str x/\(∀ b xs,datumAt x D=some xs->SqT K H1 b xs->Q (.ref b) H1)/\(datumAt x D=none->Q .non H1)
section
variable {X:Cx}{o e:Expr}{apos cpos:Pos}{te:TE}{d:Addr}{D:List (Str×List V)}
theorem ZmJ (T:KDic X.K d D)(ho:PE X o (tC (.ref d)))(he:PE X e te)(m:M1 X o "get" apos e cpos):PE X (.Call (.Attribute o "get" apos) [e] [] cpos) (Zlv X.K D te):=by
 intro pins s σ H Q I h
 refine RA m.base m.few m.line Tn Jo OG (Zt (ho pins s σ H (fun v H1=>v=.ref d/\Zlv X.K D te σ H1 Q) I ⟨rfl,h⟩) fun u s1 ⟨x,H1,I1,rx,ex,q1⟩=>?_)
 subst ex
 obtain rfl:u=Qz d:=rx
 obtain ⟨o',es,ep,lk,hc,_⟩:=T.2
 refine ⟨⟨o',I1.kIn _ _ lk,hc.1⟩,fun b e=>by injection e with e;subst e;exact ⟨o',I1.kIn _ _ lk,hc.2.1⟩,?_⟩
 rw [m.trees]
 refine Je rfl (Jy (Gz (Zt (he pins s1 σ H1 _ I1 q1) fun iv s2 ⟨y,H2,I2,ry,x,ey,q2,q3⟩=>Jx ?_)))
 subst ey
 obtain ⟨t,rfl⟩:=ry
 refine SV Jo ⟨o',I2.kIn _ _ lk,hc.1⟩ Tz (PySem.F.args_dict_get_2 _ _) (Zgi (D:=D) (Rr:=fun xs v=>∃ b,v=Qz b/\KTup X.K b xs)) ⟨T.tab I2.kIn,fun xs v ha hv=>?_,fun hn=>⟨.non,H2,I2.tok _,rfl,q3 hn⟩⟩
 obtain ⟨b,rfl,kt⟩:=hv
 exact ⟨.ref b,H2,I2.tok _,rfl,q2 b xs ha kt.sq⟩
end
end L2
namespace L2
open PySem PySem.Spec PyProof.Rows
section
variable {X:Cx}
end
mutual
theorem DatT.same {K:Qb}{H H':Hp}(s:Same H H'):∀{v d},DatT K H v d->DatT K H' v d
 | _,_,.non=>.non
 | _,_,.int i=>.int i
 | _,_,.str x=>.str x
 | _,_,.tup e q=>.tup (e.tf s.tf) (DatTs.same s q)
theorem DatTs.same {K:Qb}{H H':Hp}(s:Same H H'):∀{vs ds},DatTs K H vs ds->DatTs K H' vs ds
 | _,_,.nil=>.nil
 | _,_,.cons r t=>.cons (DatT.same s r) (DatTs.same s t)
end
mutual
theorem DatT.tf {K:Qb}{H H':Hp}(s:TF H H'):∀{v d},DatT K H v d->DatT K H' v d
 | _,_,.non=>.non
 | _,_,.int i=>.int i
 | _,_,.str x=>.str x
 | _,_,.tup e q=>.tup (SqT.tf e s) (DatTs.tf s q)
theorem DatTs.tf {K:Qb}{H H':Hp}(s:TF H H'):∀{vs ds},DatTs K H vs ds->DatTs K H' vs ds
 | _,_,.nil=>.nil
 | _,_,.cons r t=>.cons (DatT.tf s r) (DatTs.tf s t)
end
theorem DatTs.len {K:Qb}{H:Hp}:∀{vs ds},DatTs K H vs ds->vs.length=ds.length
 | _,_,.nil=>rfl
 | _,_,.cons q t=>by rw [length_cons,length_cons,DatTs.len t]
theorem Wz {α:Type}{xs:List α}{n:Nat}{x:α}(h:xs.length=n+1)(e:xs[n]?=some x):Xn xs (-1)=some x:=by
 have hi:ixN xs.length (-1)=some n:=by
  unfold ixN
  rw [if_neg (by decide),if_pos (by omega)]
  exact congrArg some (by omega)
 unfold Xn
 rw [hi];exact e
abbrev vMro:List Value:=[.type "ValueError",.type "Exception",.type "BaseException",.type "object"]
inductive VT:List Qe->Prop
 | base:VT vMro
 | own {a:Addr} {r:List Qe}:VT r->VT (.ref a::r)
def ZgR:List Qe->Bool
 | .ref _::r=>ZgR r
 | l=>decide (l=vMro)
theorem VT.of:∀{l:List Qe},ZgR l=true->VT l
 | [],h=>nomatch (of_decide_eq_true h:([]:List Qe)=vMro)
 | v::r,h=>by cases v<;>first | exact .own (VT.of h) | (have e:=of_decide_eq_true h;rw [e];exact .base)
theorem VT.has {l:List Qe}(T:VT l){x:String}{b:Bool}(hb:vMro.contains (.type x)=b):l.contains (.type x)=b:=by
 induction T with
 | base=>exact hb
 | own _ ih=>rw [contains_cons,ih];rfl
theorem VT.refuse {l:List Qe}(T:VT l)(self:Qe):refuseLoop self "__setattr__" l=pure ():=by
 induction T with
 | base=>exact PY.passes self
 | own _ ih=>rw [refuseLoop_ref];exact ih
def Zez (K:Qb)(C:Addr):Bool:=match K.lookup C with
 | some ⟨.type "type",_,.cls cd,sl⟩=>(match cd.mro,sl.toList with
  | .ref C'::bm,[_,_,_,_,some (.builtin n),_]=>C' == C&&!cd.hasDel&&cd.hasDict&&n == "ValueError.__new__"&&ZgR bm
  | _,_=>false)
 | _=>false
theorem ZaV {K:Qb}{h:Heap}{C:Addr}(X:K.In h)(q:Zez K C=true):∃ nm qn N bs bm sn sub ab col dd k0 k1 k2 k3 k5,
 h.get? C=some (JD nm qn C N bs bm true sn sub ab col dd k0 k1 k2 k3 k5 "ValueError.__new__")/\VT bm:=by
 unfold Zez at q
 split at q
 ·rename_i dd cd sl ho
  split at q
  ·rename_i C' bm k0 k1 k2 k3 n k5 hm hs
   simp only [QL,beq_iff_eq,Bool.not_eq_true'] at q
   obtain ⟨⟨⟨⟨rfl,hdel⟩,hdi⟩,rfl⟩,ht⟩:=q
   obtain ⟨nm,bs,mro,ns,qn,hd,sn,sub,ab,col,del⟩:=cd
   dsimp only at hm hdel hdi
   subst hm hdel hdi
   have hsl:sl=#[k0,k1,k2,k3,some (.builtin "ValueError.__new__"),k5]:=by
    obtain ⟨l⟩:=sl
    simp only at hs
    rw [hs]
   subst hsl
   exact ⟨nm,qn,ns,bs,bm,sn,sub,ab,col,dd,k0,k1,k2,k3,k5,X _ _ ho,.of ht⟩
  ·cases q
 ·cases q
section
variable {prog:Qm}{w:QC}{A:QK}{E:Qe->Qg->Prop}{h:Heap}{g:Array NH}{d:Drawn}{t:Nat}{os:OsState}
variable {nm q:Str}{C N:Addr}{bs bm:List Qe}{sn:List Str}{sub:List Qe}{ab:Bool}{col:Option Bool}{dd:Option Addr}{k0 k1 k2 k3 k5:Option Qe}
theorem Zfk {M:Rx}(T:VT bm){rest:List Qe}{Q:Unit->Qg->Prop}(hC:h.get? C=some (JD nm q C N bs bm true sn sub ab col dd k0 k1 k2 k3 k5 "ValueError.__new__"))
 (hq:Q () ⟨h,g,d,t,os⟩):Qr M A (GX "ValueError.__new__" ⟨.ref C::rest,[]⟩) Q E ⟨h,g,d,t,os⟩:=by
 have F:=Jj
 have hcont:(Qz C::bm).contains (.type "ValueError")=true:=by rw [contains_cons,T.has F.hasB,Ov]
 have hstar:=F.noStar
 simp only [GX,F.newKind,F.newSplit,F.newRow]
 repeat (first | refine QQ hC ?_ | (refine GU hC ?_;rw [hcont]) | refine wpAny_staticBase_exc hC ?_ | refine Mp hC ?_ | simp only [bne_self_eq_false,JZ,if_false] | wp_step)
 exact hq
theorem ZpH {R:Oh->Qg->Prop}(T:VT bm){rest:List Qe}(hC:h.get? C=some (JD nm q C N bs bm true sn sub ab col dd k0 k1 k2 k3 k5 "ValueError.__new__"))
 (hq:R (.ok (.ret (.ref (h.objs.size+1)))) ⟨(h.push { cls:=.type "tuple",data:=.seq rest.toArray }).push
  {cls:=.ref C,data:=.fields #[.ref h.objs.size,.none,.none,.none,.bool false,.none] },g,d,t,os⟩) (hrest:rest.length<=Qi) :
 Pf (QA prog w) A (.builtin "ValueError.__new__" ⟨.ref C::rest,[]⟩) R ⟨h,g,d,t,os⟩:=by
 have F:=Jj
 have hends:=F.ends
 have hcB:(Qz C::bm).contains (.type "ValueError")=true:=by rw [contains_cons,T.has F.hasB,Ov]
 have hcA:(Qz C::bm).contains (.type "AttributeError")=false:=by rw [contains_cons,T.has F.noAttr];rfl
 have hcN:(Qz C::bm).contains (.type "NameError")=false:=by rw [contains_cons,T.has F.noName];rfl
 refine codeAny_builtinAt F.entry ?_
 unfold Tb.«BaseException.__new__»
 refine MG ?_
 show PySem.wpAt _ _ _ (stack >>= _) _ _ _
 refine MG (PySem.wpAt_stack fun p below=>Nh ?_)
 wp_walk
 refine Nh ?_
 rw [F.owner]
 repeat (first | with_reducible refine wpAny_madeHere_exc F.canon hC ?_ | with_reducible refine QQ hC ?_ | (with_reducible refine GU hC ?_;first | rw [hcB] | rw [hcA] | rw [hcN]) | wp_step)
 show R _ _
 rw [Gd]
 exact hq
theorem Zfj (T:VT bm){rest:List Qe}{fI:Addr}{oI:Obj}{Q:Fin->Qg->Prop}
   (hC:h.get? C=some (JD nm q C N bs bm true sn sub ab col dd k0 k1 k2 k3 k5 "ValueError.__new__")) (LI:Jg (QA prog w) h (GF (.ref C) "__init__") (some (.ref fI)))
   (hfI:h.get? fI=some oI) (hfc:oI.cls=.type "function")
   (hq:∀ h' e,Heap.MadeExcOf h h' e (.ref C) rest->h.objs.size<=e ->
     Qr (QA prog w) A (call (.ref fI) (.ref e::rest)) (fun r s'=>r=.none/\Q (.done (.ret (.ref e))) s') E ⟨h',g,d,t,os⟩) (hrest:rest.length<=Qi) :
   Qr (QA prog w) A (Tb.«type.__call__» ⟨.ref C::rest,[]⟩) Q E ⟨h,g,d,t,os⟩:=by
 have F:=Jj
 repeat (first | with_reducible refine QQ hC ?_ | with_reducible refine Mp hC ?_ | wp_step)
 refine codeAny_call_builtin_code (Ti _ F.quiet) (Zfk T hC ?_)
 refine ZpH T hC ?_ hrest
 show Qr _ _ _ _ _ _
 have hC₁:=Qf { cls:=.ref C,data:=.fields #[.ref h.objs.size,.none,.none,.none,.bool false,.none] }
   (Qf { cls:=.type "tuple",data:=.seq rest.toArray } hC)
 have hfI₁:=Qf { cls:=.ref C,data:=.fields #[.ref h.objs.size,.none,.none,.none,.bool false,.none] }
   (Qf { cls:=.type "tuple",data:=.seq rest.toArray } hfI)
 have hget:((h.push { cls:=.type "tuple",data:=.seq rest.toArray }).push
     { cls:=.ref C,data:=.fields #[.ref h.objs.size,.none,.none,.none,.bool false,.none] }).get? (h.objs.size+1)=some
     { cls:=.ref C,data:=.fields #[.ref h.objs.size,.none,.none,.none,.bool false,.none] }:=by heap_get
 have hcC:(Qz C::bm).contains (.ref C)=true:=by simp
 unfold isInstance
 repeat (first | with_reducible refine QQ hget ?_ | (with_reducible refine GU hC₁ ?_;rw [hcC]) | wp_step)
 show Qr _ _ (GF (.ref C) _) _ _ _
 refine (LI.keeps (h':=(h.push { cls:=.type "tuple",data:=.seq rest.toArray }).push { cls:=.ref C,data:=.fields #[.ref h.objs.size,.none,.none,.none,.bool false,.none] }) fun b o e=>Qf _ (Qf _ e)) _ _ _ _ (fun _ _ e=>e) ?_
 refine GI (Qd ?_)
 unfold bindSpecial
 refine Qd (wpAny_typeOf (T:="function") ⟨_,hfI₁,hfc⟩ ?_)
 rw [if_pos (by decide)]
 refine Qk (Qd (QY (hq _ (h.objs.size+1) ⟨fun b o hb=>Qf _ (Qf _ hb),Sv (JV _),h.objs.size,hget,Sv (Qh _),?_⟩ (JV _)) (fun r s' hr=>?_) fun _ _ x=>x))
 · exact Qf _ (NX rfl rfl)
 · obtain ⟨rfl,hQ⟩:=hr
   wp_walk
   exact hQ
theorem Znn (T:VT bm){rest:List Qe}{fI:Addr}{oI:Obj}{Q:Qe->Qg->Prop}
 (hC:h.get? C=some (JD nm q C N bs bm true sn sub ab col dd k0 k1 k2 k3 k5 "ValueError.__new__")) (LI:Jg (QA prog w) h (GF (.ref C) "__init__") (some (.ref fI)))
 (hfI:h.get? fI=some oI) (hfc:oI.cls=.type "function")
 (hq:∀ h' e,Heap.MadeExcOf h h' e (.ref C) rest->h.objs.size<=e ->
  Qr (QA prog w) (A.under (.builtin "type.__call__" ⟨.ref C::rest,[]⟩)) (call (.ref fI) (.ref e::rest)) (fun r s'=>r=.none/\Q (.ref e) s') E ⟨h',g,d,t,os⟩) (hrest:rest.length<=Qi) :
 Qr (QA prog w) A (call (.ref C) rest) Q E ⟨h,g,d,t,os⟩:=by
 have f1:=tc_lookup
 have f2:=tc_bind (.ref C)
 have hT:(⟨h,g,d,t,os⟩:Qg).TypeIs (.ref C) "type":=⟨_,hC,rfl⟩
 refine Rl (ME ?_)
 show Qr _ _ (callAny (.ref C) _) _ _ _
 repeat (any_goals (first | assumption | with_reducible refine QQ hC ?_ | wp_step))
 refine ⟨rfl,?_⟩
 refine codeAny_call_builtin_at (Ti _ (by decide +kernel)) entry_typeCall (wpAny_check_type_call_sub hC (Zfj T hC LI hfI hfc (fun h' e hm hle=>?_) hrest))
 exact hq h' e hm hle
theorem Znc {M:Rx}{env:Env}{s:Qg}{x:Sem Qe}{Q:Flow->Qg->Prop}(T:VT bm)(hh:A.handled=none)
 (h:Qr M A x (fun v s₁=>∃ e oe vs,v=.ref e/\s₁.heap.get? C=some (JD nm q C N bs bm true sn sub ab col dd k0 k1 k2 k3 k5 "ValueError.__new__") /\
  s₁.heap.get? e=some oe/\oe.cls=.ref C/\oe.data=.fields vs/\vs[1]?=some .none/\E (.ref e) s₁) E s) :
 Qr M A (raiseStmt env (some x) none) Q E s:=by
 have hcB:(Qz C::bm).contains (.type "BaseException")=true:=by rw [contains_cons,T.has Jj.hasBase,Ov]
 unfold raiseStmt
 refine Qd (QY h (fun v s₁ h₁=>?_) fun _ _ x=>x)
 obtain ⟨e,oe,vs,rfl,hC,he,hcl,hd,h1,hE⟩:=h₁
 obtain ⟨oc,odi,oda,osl⟩:=oe
 dsimp only at hcl hd
 subst hcl hd
 obtain ⟨hp,g,d,tk,os⟩:=s₁
 repeat (first | with_reducible refine QQ he ?_ | with_reducible refine QQ hC ?_ | (with_reducible refine GU hC ?_;rw [hcB]) | with_reducible refine QN he rfl h1 ?_ | wp_step)
 exact wpAny_raiseNew_none hh hE
end
section
variable {prog:Qm}{w:QC}{A:QK}{E:Qe->Qg->Prop}{h:Heap}{g:Array NH}{d:Drawn}{t:Nat}{os:OsState}
variable {nm q:Str}{C N x:Addr}{bs bm:List Qe}{sn:List Str}{sub:List Qe}{ab:Bool}{col:Option Bool}{dd:Option Addr}{k0 k1 k2 k3 k5:Option Qe}{name:Str}{v:Qe}{o:Obj}
theorem Zhs {M:Rx}{nameV:Qe}{Q:Unit->Qg->Prop}(T:VT bm)
 (hC:h.get? C=some (JD nm q C N bs bm true sn sub ab col dd k0 k1 k2 k3 k5 "ValueError.__new__")) (hx:h.get? x=some o) (hc:o.cls=.ref C) (hq:Q () ⟨h,g,d,t,os⟩) :
 Qr M A (GX "object.__setattr__" ⟨[.ref x,nameV,v],[]⟩) Q E ⟨h,g,d,t,os⟩:=by
 have SF:=PY
 have hcB:(Qz C::bm).contains (.type "object")=true:=by rw [contains_cons,T.has SF.hasOwner,Ov]
 have ha:=SF.args (.ref x) nameV v
 simp only [GX,SF.kind,SF.split]
 refine Qd ?_
 ·unfold isInstance
  repeat (first | (with_reducible refine QQ hx ?_;rw [hc]) | (with_reducible refine GU hC ?_;rw [hcB]) | wp_step)
  exact hq
theorem Zmp {Q:Unit->Qg->Prop}(T:VT bm)(hC:h.get? C=some (JD nm q C N bs bm true sn sub ab col dd k0 k1 k2 k3 k5 "ValueError.__new__"))
   (LS:Jg (QA prog w) h (GF (.ref C) "__setattr__") (some (.builtin "object.__setattr__"))) (LN:Jg (QA prog w) h (GF (.ref C) name) none)
   (hx:h.get? x=some o) (hc:o.cls=.ref C) (hdn:o.dict=none) (hnc:∀ c,o.data≠.cls c)
   (hq:∀ h' tk',h'.get? x=some { o with dict:=some h.objs.size }->h'.Ns1 h.objs.size (fun y=>if y=name then some v else none)->(∀ b ob,b≠x->h.get? b=some ob->h'.get? b=some ob)->Q () ⟨h',g,d,tk',os⟩) :
   Qr (QA prog w) A (setAttr (.ref x) name v) Q E ⟨h,g,d,t,os⟩:=by
 have SF:=PY
 have f3:=SF.slot.bind (.ref x)
 unfold setAttr callSpecial? specialOf
 have LS':∀ {tk:Nat} {A:QK} {Q:Option Qe->Qg->Prop} {E:Qe->Qg->Prop},Q (some (.builtin "object.__setattr__")) ⟨h,g,d,tk,os⟩->Qr (QA prog w) A (GF (.ref C) "__setattr__") Q E ⟨h,g,d,tk,os⟩:=fun q=>LS _ _ _ _ (fun _ _ e=>e) q
 have LN':∀ {tk:Nat} {A:QK} {Q:Option Qe->Qg->Prop} {E:Qe->Qg->Prop},Q none ⟨h,g,d,tk,os⟩->Qr (QA prog w) A (GF (.ref C) name) Q E ⟨h,g,d,tk,os⟩:=fun q=>LN _ _ _ _ (fun _ _ e=>e) q
 repeat (any_goals (first | assumption | (with_reducible refine QQ hx ?_;rw [hc]) | (with_reducible refine LS' ?_) | wp_step))
 refine JA SF.slot.plain SF.entry (Zhs T hC hx hc ?_)
 have hpass:=T.refuse (.ref x)
 unfold Tb.«object.__setattr__»
 repeat (first | rw [refuse_eq] | (rw [refuseLoop_ref,hpass]) | (with_reducible refine QQ hx ?_;rw [hc]) | with_reducible refine wpAny_mroOf_exc hC ?_ | (with_reducible refine LN' ?_) | wp_step)
 rw [hdn,if_neg (by simp [typeHasDict])]
 split
 · rename_i hcd
   cases hcd
 split
 · rename_i c hcd
   exact absurd hcd (hnc c)
 · have hx₁:(h.push { cls:=.type "dict",data:=.dict #[] }).get? x=some o:=Qf _ hx
   have hxs:x≠h.objs.size:=Qt (Qj hx)
   refine Qd (wpAny_alloc' ?_)
   refine Qd (wpAny_update' hx₁ ?_)
   refine Qk ?_
   have hgd:((h.push { cls:=.type "dict",data:=.dict #[] }).update x fun o=>{ cls:=o.cls,dict:=some h.objs.size,data:=o.data,slots:=o.slots }).get? h.objs.size
       = some { cls:=.type "dict",data:=.dict #[] } :=
     (Ni _ _ _ _ hxs.symm).trans (NX rfl rfl)
   have hnd:((h.push { cls:=.type "dict",data:=.dict #[] }).update x fun o=>{ cls:=o.cls,dict:=some h.objs.size,data:=o.data,slots:=o.slots }).Ns h.objs.size (fun _=>none) :=
     ⟨_,#[],_,hgd,rfl,fun e he=>absurd he (by simp),fun _=>rfl⟩
   show Qr _ _ (Sm h.objs.size (.str name _) name v) _ _ _
   unfold Sm Mq
   refine Qd (Qk (Qd (wpAny_nsSet1 (Heap.Ns1.of_empty hnd) fun h' hn' hs=>?_)))
   obtain ⟨oD,esD,epD,hoD,hdD,hcD⟩:=hn'.count (Within.cons name v Within.nil)
   refine Qd (wpAny_lookBehind hoD (by rw [hdD];exact pastItsLine_dict (Qw hcD (by rw [length_cons,length_nil,GV];omega))) ?_)
   wp_walk
   have hx':h'.get? x=some { cls:=o.cls,dict:=some h.objs.size,data:=o.data,slots:=o.slots }:=by
     refine (hs.2 x hxs).trans (Jn _ hx₁ ?_)
     have hfr:=(Heap.get?_some_iff.mp hx).2
     obtain ⟨oc,od,odt,osl⟩:=o
     cases odt<;>first | rfl | exact hfr
   repeat (any_goals (first | assumption | wp_step))
   exact hq h' _ hx' hn' fun b ob hbx hb=>(hs.2 b (Qt (Qj hb))).trans ((Ni _ _ _ _ hbx).trans (Qf _ hb))
end
def TbAt (base:Heap)(n:Nat)(H:Hp)(h:Heap)(ea:Addr)(vs:Array Qe):Option Qe->Prop
 | none=>vs[1]?=some .none
 | some fl=>∃ T oT ts,vs[1]?=some (.ref T)/\T≠ea/\base.get? T=none/\H T=none/\n<=T/\h.get? T=some oT/\oT.data=.fields ts/\ts[3]?=some fl
def ExcAt (base:Heap)(n:Nat)(H:Hp)(ea C dx:Addr)(fl:Option Qe)(h:Heap):Prop :=
 base.get? ea=none/\H ea=none/\n<=ea/\∃ oe vs,h.get? ea=some oe/\oe.cls=.ref C/\oe.dict=some dx/\oe.data=.fields vs/\TbAt base n H h ea vs fl
def Keep (fs:List Addr)(n:Nat)(H:Hp)(h h':Heap):Prop :=
 (∀ b o,h.get? b=some o->b∈fs->∃ sl,h'.get? b=some { o with slots:=sl })/\(∀ b o,h.get? b=some o->b ∉ fs->(H b≠none\/b < n)->h'.get? b=some o) /\
 (∀ b m,h.Ns b m->h'.Ns b m)/\(∀ b v,h.IsCell b v->h'.IsCell b v)/\h.objs.size<=h'.objs.size
theorem Keep.trans {fs:List Addr}{n:Nat}{H:Hp}{h h1 h2:Heap}(a:Keep fs n H h h1)(b:Keep fs n H h1 h2):Keep fs n H h h2:=by
 refine ⟨fun c o e m=>?_,fun c o e m k=>b.2.1 c o (a.2.1 c o e m k) m k,fun c m x=>b.2.2.1 c m (a.2.2.1 c m x),fun c v x=>b.2.2.2.1 c v (a.2.2.2.1 c v x),Qw a.2.2.2.2 b.2.2.2.2⟩
 obtain ⟨sl,e1⟩:=a.1 c o e m
 obtain ⟨sl2,e2⟩:=b.1 c _ e1 m
 exact ⟨sl2,e2⟩
theorem Zgv {h h':Heap}(k:∀ b o,h.get? b=some o->(∀ vs,o.data≠.fields vs)->∃ sl,h'.get? b=some { o with slots:=sl }){b:Addr}{m:Str->Option Qe}(x:h.Ns b m):h'.Ns b m:=by
 obtain ⟨o,es,ep,ho,hd,r⟩:=x
 obtain ⟨sl,hs⟩:=k b o ho fun vs q=>by rw [hd] at q;cases q
 exact ⟨_,es,ep,hs,hd,r⟩
theorem Zcw {h h':Heap}(k:∀ b o,h.get? b=some o->(∀ vs,o.data≠.fields vs)->∃ sl,h'.get? b=some { o with slots:=sl }){b:Addr}{v:Option Qe}(x:h.IsCell b v):h'.IsCell b v:=by
 obtain ⟨o,ho,hd⟩:=x
 obtain ⟨sl,hs⟩:=k b o ho fun vs q=>by rw [hd] at q;cases q
 exact ⟨_,hs,hd⟩
section
variable {M:Rx}{A:QK}{E:Qe->Qg->Prop}{s:Qg}{base:Heap}{n:Nat}{H:Hp}{env:Env}{outer:List Env}{L ea C dx:Addr}
theorem Zcr {oe:Obj}{vs:Array Qe}{head:Qe}{hadNext:Bool}{Q:Unit->Qg->Prop}
   (hfr:A.frames=some (env::outer)) (hl:s.heap.FunFrames base (env::outer)) (hf:env.frame=some L)
   (he:s.heap.get? ea=some oe) (hkb:base.StaysIn s.heap) (hen:base.get? ea=none) (hHe:H ea=none) (hne:n<=ea) (hcl:oe.cls=.ref C) (hdi:oe.dict=some dx) (hd:oe.data=.fields vs) (hsz:1 < vs.size) (hH:∀ b,s.heap.objs.size<=b->H b=none)
   (h:∀ h',base.StaysIn h'->h'.FunFrames base (env::outer)->ExcAt base n H ea C dx (some (JN L)) h'->Keep (XY (env::outer)) n H s.heap h'->Q () { s with heap:=h' }) :
   Qr M A (do let a <- frameOf env;let pl <- entryPlaceOf L hadNext;let b <- Nj head a .none (JN L) .none pl;setField (.ref ea) 1 b) Q E s:=by
 have hene:ea ∉ (env::outer).filterMap (·.frame):=fun hm=>by
   obtain ⟨_,o,ho,hnf⟩:=hl.mem hm
   rw [he] at ho;injection ho with ho;subst ho;exact hnf vs hd
 refine Qd (wpAny_frameOf_fun hfr hl hf fun h₁ hs₁=>?_)
 refine Qd (wpAny_entryPlaceOf fun pl hpl=>?_)
 unfold Nj newFields
 refine Qd (Gj ?_ (hpl.sizeOk5 _ _ _ _ _))
 have he₁:h₁.get? ea=some oe:=(hs₁.2.1 ea hene).trans he
 have kb₁:base.StaysIn h₁:=fun b o hbo=>(hs₁.2.1 b fun hm=>by rw [(hl.mem hm).1] at hbo;cases hbo).trans (hkb b o hbo)
 have he₂:=Qf (h:=h₁) { cls:=.type "traceback",dict:=none,data:=.fields ([head,.ref L,.none,JN L,.none]++(if pl.isEmpty then QI 6 Gb else pl)).toArray } he₁
 refine TN he₂ hd hsz ?_
 have hTe:h₁.objs.size≠ea:=GY (Qj he₁)
 have hd₃:=Pa hd (·.setIfInBounds 1 (Qz h₁.objs.size))
 have he₃:=Jn (GJ (·.setIfInBounds 1 (Qz h₁.objs.size))) he₂ (Sf hd₃)
 have hT₃:=(GS (h₁.push { cls:=.type "traceback",dict:=none,data:=.fields ([head,.ref L,.none,JN L,.none]++(if pl.isEmpty then QI 6 Gb else pl)).toArray })
   (GJ (·.setIfInBounds 1 (Qz h₁.objs.size))) (GR hTe)).trans (Qn h₁ rfl)
 have keep:∀ b o,b≠ea->h₁.get? b=some o ->
     ((h₁.push { cls:=.type "traceback",dict:=none,data:=.fields ([head,.ref L,.none,JN L,.none]++(if pl.isEmpty then QI 6 Gb else pl)).toArray }).update ea (GJ (·.setIfInBounds 1 (Qz h₁.objs.size)))).get? b=some o :=
   fun b o hbe hb=>by
     rw [GS _ _ (GR hbe)]
     exact Qf _ hb
 have noRecord:∀ b o,s.heap.get? b=some o->(∀ vs,o.data≠.fields vs)->b≠ea:=fun b o hb hnf q=>by
   rw [q,he] at hb;injection hb with hb;subst hb;exact hnf vs hd
 have up:∀ b o,s.heap.get? b=some o->(∀ vs,o.data≠.fields vs)->∃ sl,((h₁.push { cls:=.type "traceback",dict:=none,data:=.fields ([head,.ref L,.none,JN L,.none]++(if pl.isEmpty then QI 6 Gb else pl)).toArray }).update ea (GJ (·.setIfInBounds 1 (Qz h₁.objs.size)))).get? b=some { o with slots:=sl }:=fun b o hb hnf=>by
   obtain ⟨sl,hs⟩:=hs₁.2.2 b o hb
   exact ⟨sl,keep b _ (noRecord b o hb hnf) hs⟩
 have hmap:∀ {o:Obj} {f:Array Qe->Array Qe},(o.mapFields f).dict=o.dict:=fun {o f}=>by unfold GJ;split<;>rfl
 refine h _ (fun b o hbo=>keep b o (fun q=>by rw [q,hen] at hbo;cases hbo) (kb₁ b o hbo)) (hl.of_keeps fun b o hb hnf=>let ⟨sl,e⟩:=up b o hb hnf;⟨_,e,rfl⟩) ?_ ?_
 · refine ⟨hen,hHe,hne,_,_,he₃,(NY _ _).trans hcl,hmap.trans hdi,hd₃,h₁.objs.size,_,_,by simp [hsz],hTe,kb₁.fresh,hH _ (by rw [hs₁.1];exact Qh _),?_,hT₃,rfl,by first | (simp;done) | (rcases hpl with rfl | ⟨_,_,_,_,_,_,_,rfl⟩<;>simp)⟩
   exact Qw hne (Tq (Qj he₁))
 · refine ⟨fun b o hb hm=>?_,fun b o hb hm k=>?_,fun b m x=>Zgv up x,fun b v x=>Zcw up x,?_⟩
   · obtain ⟨sl,hs⟩:=hs₁.2.2 b o hb
     exact ⟨sl,keep b _ (fun q=>hene (by rw [<- q];exact hm)) hs⟩
   · refine keep b o (fun q=>?_) ((hs₁.2.1 b hm).trans hb)
     rcases k with k | k
     · exact k (by rw [q];exact hHe)
     · rw [q] at k;exact absurd k (JJ.mpr hne)
   · rw [TQ,Gd,hs₁.1];exact JV _
theorem Zfx {fl:Option Qe}{Q:Unit->Qg->Prop}(hfl:fl=none\/fl=some .none)
 (hfr:A.frames=some (env::outer)) (hl:s.heap.FunFrames base (env::outer)) (hf:env.frame=some L) (hkb:base.StaysIn s.heap) (x:ExcAt base n H ea C dx fl s.heap) (hH:∀ b,s.heap.objs.size<=b->H b=none)
 (h:∀ h',base.StaysIn h'->h'.FunFrames base (env::outer)->ExcAt base n H ea C dx (some (JN L)) h'->Keep (XY (env::outer)) n H s.heap h'->Q () { s with heap:=h' }) :
 Qr M A (Mn (.ref ea) env) Q E s:=by
 obtain ⟨hen,hHe,hne,oe,vs,he,hcl,hdi,hd,tb⟩:=x
 unfold Mn
 simp only [hf]
 rcases hfl with rfl | rfl
 ·have h1:vs[1]?=some .none:=tb
  refine Qd (QN he hd h1 ?_)
  rw [if_neg (by decide)]
  exact Zcr hfr hl hf he hkb hen hHe hne hcl hdi hd (GA.mp h1).1 hH h
 ·obtain ⟨T,oT,ts,h1,hTe,hnT,hHT,hnT2,hT,hdT,h3⟩:=tb
  refine Qd (QN he hd h1 ?_)
  rw [if_pos (show (Qz T != Gb)=true from by simp)]
  refine Qd (QN hT hdT h3 ?_)
  rw [if_neg (show ¬ ((Gb == JN L)=true) from by simp [JN])]
  refine Qd (TN hT hdT (GA.mp h3).1 ?_)
  have other:∀ b,b≠T->(s.heap.update T (GJ (·.setIfInBounds 3 Gb))).get? b=s.heap.get? b:=fun b hb=>GS _ _ (GR hb)
  have noRecord:∀ b o,s.heap.get? b=some o->(∀ vs,o.data≠.fields vs)->b≠T:=fun b o hb hnf q=>by
   rw [q,hT] at hb;injection hb with hb;subst hb;exact hnf ts hdT
  have up:∀ b o,s.heap.get? b=some o->(∀ vs,o.data≠.fields vs)->∃ sl,(s.heap.update T (GJ (·.setIfInBounds 3 Gb))).get? b=some { o with slots:=sl }:=fun b o hb hnf=>⟨o.slots,(other b (noRecord b o hb hnf)).trans hb⟩
  have hsz:(s.heap.update T (GJ (·.setIfInBounds 3 Gb))).objs.size=s.heap.objs.size:=TQ ..
  have kp:Keep (XY (env::outer)) n H s.heap (s.heap.update T (GJ (·.setIfInBounds 3 Gb))):=by
   refine ⟨fun b o hb hm=>⟨o.slots,(other b fun q=>?_).trans hb⟩,fun b o hb hm k=>(other b fun q=>?_).trans hb,fun b m x=>Zgv up x,fun b v x=>Zcw up x,NV hsz.symm⟩
   ·obtain ⟨_,o',ho',hnf⟩:=hl.mem hm
    rw [q,hT] at ho';cases ho';exact hnf ts hdT
   ·rcases k with k | k
    ·exact k (by rw [q];exact hHT)
    ·rw [q] at k;exact absurd k (JJ.mpr hnT2)
  exact Zcr (s:={ s with heap:=s.heap.update T (GJ (·.setIfInBounds 3 Gb)) }) hfr (hl.of_keeps fun b o hb hnf=>⟨o,(other b (noRecord b o hb hnf)).trans hb,rfl⟩) hf ((other ea (GR hTe)).trans he)
   (fun b o hbo=>(other b fun q=>by rw [q,hnT] at hbo;cases hbo).trans (hkb b o hbo)) hen hHe hne hcl hdi hd (GA.mp h1).1 (fun b hb=>hH b (by rw [<- hsz];exact hb))
   fun h' x1 x2 x3 x4=>h h' x1 x2 x3 (kp.trans x4)
theorem ZaG {l:List Env}{fl:Qe}{Q:Unit->Qg->Prop}(hkb:base.StaysIn s.heap)(hl:s.heap.FunFrames base l)(x:ExcAt base n H ea C dx (some fl) s.heap)
 (h:∀ h',base.StaysIn h'->h'.FunFrames base l->ExcAt base n H ea C dx (some .none) h'->(∀ fs,(∀ b∈fs,∃ o,s.heap.get? b=some o/\∀ vs,o.data≠.fields vs)->Keep fs n H s.heap h')->Q () { s with heap:=h' }) :
 Qr M A (setFlight (.ref ea) none) Q E s:=by
 obtain ⟨hen,hHe,hne,oe,vs,he,hcl,hdi,hd,T,oT,ts,h1,hTe,hnT,hHT,hnT2,hT,hdT,h3⟩:=x
 have hsz3:3 < ts.size:=(GA.mp h3).1
 have other:∀ b,b≠T->(s.heap.update T (GJ (·.setIfInBounds 3 ((none:Option Addr).elim Gb fun f=>JN f)))).get? b=s.heap.get? b :=
  fun b hb=>GS _ _ (GR hb)
 have noRecord:∀ b o,s.heap.get? b=some o->(∀ vs,o.data≠.fields vs)->b≠T:=fun b o hb hnf q=>by
  rw [q,hT] at hb;injection hb with hb;subst hb;exact hnf ts hdT
 have up:∀ b o,s.heap.get? b=some o->(∀ vs,o.data≠.fields vs)->∃ sl,(s.heap.update T (GJ (·.setIfInBounds 3 ((none:Option Addr).elim Gb fun f=>JN f)))).get? b=some { o with slots:=sl }:=fun b o hb hnf=>⟨o.slots,(other b (noRecord b o hb hnf)).trans hb⟩
 unfold setFlight
 refine Qd (QN he hd h1 ?_)
 rw [if_pos (show (Qz T != Gb)=true from by simp)]
 refine TN hT hdT hsz3 (h _ (fun b o hbo=>(other b fun q=>by rw [q,hnT] at hbo;cases hbo).trans (hkb b o hbo))
  (hl.of_keeps fun b o hb hnf=>⟨o,(other b (noRecord b o hb hnf)).trans hb,rfl⟩) ?_ fun fs hfs=>?_)
 ·exact ⟨hen,hHe,hne,oe,vs,(other ea (GR hTe)).trans he,hcl,hdi,hd,T,_,_,h1,hTe,hnT,hHT,hnT2,Jn _ hT (Sf (Pa hdT _)),Pa hdT _,by simp [hsz3]⟩
 ·refine ⟨fun b o hb hm=>⟨o.slots,(other b fun q=>?_).trans hb⟩,fun b o hb hm k=>(other b fun q=>?_).trans hb,fun b m x=>Zgv up x,fun b v x=>Zcw up x,NV (TQ ..).symm⟩
  ·obtain ⟨o',ho',hnf⟩:=hfs b hm
   rw [q,hT] at ho';cases ho';exact hnf ts hdT
  ·rcases k with k | k
   ·exact k (by rw [q];exact hHT)
   ·rw [q] at k;exact absurd k (JJ.mpr hnT2)
theorem ZkW {fl:Option Qe}{Q:Unit->Qg->Prop}(hfl:fl=none\/fl=some .none)
 (hfr:A.frames=some (env::outer)) (hl:s.heap.FunFrames base (env::outer)) (hf:env.frame=some L) (hkb:base.StaysIn s.heap) (x:ExcAt base n H ea C dx fl s.heap) (hH:∀ b,s.heap.objs.size<=b->H b=none)
 (h:∀ h',base.StaysIn h'->h'.FunFrames base outer->ExcAt base n H ea C dx (some .none) h'->Keep (XY (env::outer)) n H s.heap h'->Q () { s with heap:=h' }) :
 Qr M A (leaving env (.ref ea)) Q E s:=by
 unfold leaving
 refine Qd (Zfx hfl hfr hl hf hkb x hH fun h1 b1 f1 x1 k1=>?_)
 refine ZaG b1 f1 x1 fun h2 b2 f2 x2 k2=>h h2 b2 f2.2.2 x2 (k1.trans (k2 _ fun b hb=>?_))
 obtain ⟨_,o,ho,hnf⟩:=f1.mem hb
 exact ⟨o,ho,hnf⟩
end
theorem Keep.hok {P:Qm}{w:QC}{fs:List Addr}{n:Nat}{H:Hp}{h h':Heap}(x:HOk P w H h)(hf:∀ b∈fs,H b=none)(k:Keep fs n H h h'):HOk P w H h':=fun a o e=>by
 have tr:∀ b,b=a\/H b=some (.own a)->H b≠none:=fun b hb z=>by
  rcases hb with rfl | hb
  ·rw [e] at z;cases z
  ·rw [hb] at z;cases z
 exact (x a o e).stay (fun b u hb q=>k.2.1 b u q (fun m=>tr b hb (hf b m)) (.inl (tr b hb))) (fun _ q=>q) (fun _ _ q=>q)
theorem ExcAt.le {base:Heap}{n n':Nat}{H:Hp}{ea C dx:Addr}{fl:Option Qe}{h:Heap}(x:ExcAt base n' H ea C dx fl h)(l:n<=n'):ExcAt base n H ea C dx fl h:=by
 obtain ⟨a,b,c,oe,vs,e1,e2,e3,e4,tb⟩:=x
 refine ⟨a,b,Qw l c,oe,vs,e1,e2,e3,e4,?_⟩
 cases fl with
 | none=>exact tb
 | some f=>obtain ⟨T,oT,ts,t1,t2,t3,t4,t5,t6⟩:=tb;exact ⟨T,oT,ts,t1,t2,t3,t4,Qw l t5,t6⟩
section
variable {X:Cx}{pins:List (Addr×Obj)}{σ:St}{H H1 H2:Hp}{s s1 s2:Qg}{h':Heap}
def ZgV (n:Nat)(H:Hp)(h:Heap):List Addr:=(Gs h.objs.size).filter fun b=>(H b).isNone&&decide (n<=b)
theorem Inv.flown {t':Nat}(I1:Inv X pins σ H1 s1)(I2:Inv X pins σ H2 s2)(k:Keep (XY X.stack) s1.heap.objs.size H2 s2.heap h'):Inv X pins σ H2 { s2 with heap:=h',toks:=t' }:=by
 have mem:∀ b,b∈ZgV s1.heap.objs.size H2 s2.heap->s1.heap.objs.size<=b:=fun b hb=>by
  have:=(PZ.mp hb).2
  simp only [QL,decide_eq_true_eq] at this
  exact this.2
 have out:∀ b o,s2.heap.get? b=some o->b ∉ ZgV s1.heap.objs.size H2 s2.heap->H2 b≠none\/b < s1.heap.objs.size:=fun b o e hb=>by
  by_cases z:H2 b=none
  ·refine .inr (Nat.lt_of_not_le fun l=>hb (PZ.mpr ⟨mem_range.mpr (Qj e),?_⟩))
   rw [z];simp [l]
  ·exact .inl z
 refine I2.call (g':=s2.gens) (d':=s2.drawn) (ch:=ZgV s1.heap.objs.size H2 s2.heap) ⟨fun b o e hn hf hc=>k.2.1 b o e hf (out b o e hc),fun b o e hn hf hc=>k.1 b o e hf,fun b o e hn hc=>hn,fun b o e hc=>?_,fun _ _ e=>e,fun _ _ _ e=>e,fun _ ps e=>⟨#[],by rw [e];simp⟩⟩ (k.hok I2.hok I2.stkFree) I2.bare fun b hb=>?_
 ·by_cases m:b∈XY X.stack
  ·obtain ⟨sl,q⟩:=k.1 b o e m;exact ⟨_,q⟩
  ·exact ⟨o,k.2.1 b o e m (out b o e hc)⟩
 ·have hb':=mem b hb
  refine ⟨.inr (Qw I1.sz hb'),fun z=>?_,fun x c hx z=>?_,fun p hp z=>?_⟩
  ·have:=I1.lt;rw [<- z] at this;exact absurd this (JJ.mpr hb')
  ·obtain ⟨v,o,e,_⟩:=I1.cell x c hx
   have:=Qj e;rw [z] at this;exact absurd this (JJ.mpr hb')
  ·have:=Qj (I1.pin p hp).1;rw [z] at this;exact absurd this (JJ.mpr hb')
structure Cx.Old (X:Cx)(a:Addr):Prop where
 t:∀ xs,X.H₀ a≠some (.tup xs)
 f:∀ o u,X.H₀ a≠some (.frz o u)
 b:∀ ps,X.H₀ a≠some (.tbl ps)
theorem Inv.old {a:Addr}(I:Inv X pins σ H s)(h:H a=none):X.Old a where
 t:=fun xs e=>(by have:=I.base.tups a xs e;rw [h] at this;cases this)
 f:=fun o u e=>(by have:=I.base.frzs a o u e;rw [h] at this;cases this)
 b:=fun ps e=>(by obtain ⟨m,q⟩:=I.base.tbls a ps e;rw [h] at q;cases q)
theorem Cx.Old.nt {a b:Addr}(O:X.Old a){xs:List V}(e:X.H₀ b=some (.tup xs)):b≠a:=fun z=>O.t xs (by rw [<- z];exact e)
theorem Cx.Old.nf {a b:Addr}(O:X.Old a){o:Obj}{u:HO}(e:X.H₀ b=some (.frz o u)):b≠a:=fun z=>O.f o u (by rw [<- z];exact e)
theorem Cx.Old.nb {a b:Addr}(O:X.Old a){ps:Array Qe}(e:X.H₀ b=some (.tbl ps)):b≠a:=fun z=>O.b ps (by rw [<- z];exact e)
theorem Inv.track {a:Addr}{o:HO}(I:Inv X pins σ H s)(hn:H a=none)(h0:X.s₀.heap.objs.size<=a)(hL:a≠X.env.locals)(hC:∀ x c,X.env.cells.lookup x=some c->c≠a)(hp:∀ p∈X.pn++pins,p.1≠a)
 (new:ObjOk X.prog X.w (upd H a o) s.heap a o):Inv X pins σ (upd H a o) s:=by
 have old:∀ b u,X.s₀.heap.get? b=some u->b≠a:=fun b u e z=>by
  have:=Qj e;rw [z] at this;exact absurd this (JJ.mpr h0)
 refine ⟨I.ok,I.os,I.bare,⟨I.base.keep,I.base.slot,fun b u e n hx=>?_,I.base.there,fun b xs e=>?_,fun b u xs e=>?_,fun b ps e=>?_⟩,I.loc,I.cell,?_,fun x c hx=>?_,fun p hp'=>?_,fun b u e=>?_,I.len⟩
 ·rw [Zn (old b u e)];exact I.base.free b u e n hx
 ·rw [Zn ((I.old hn).nt e)];exact I.base.tups b xs e
 ·rw [Zn ((I.old hn).nf e)];exact I.base.frzs b u xs e
 ·rw [Zn ((I.old hn).nb e)];exact I.base.tbls b ps e
 ·rw [Zn (GR hL)];exact I.free
 ·rw [Zn (hC x c hx)];exact I.freeC x c hx
 ·obtain ⟨e1,e2,e3⟩:=I.pin p hp'
  exact ⟨e1,by rw [Zn (hp p hp')];exact e2,e3⟩
 ·by_cases z:b=a
  ·subst z;rw [Ze] at e;cases e;exact new
  ·rw [Zn z] at e
   exact (I.hok b u e).stay (fun _ _ _ q=>q) (fun c q=>by rw [Zn (ZL q hn)];exact q) (fun c xs q=>by rw [Zn (ZL q hn)];exact q)
end
def CX1 (P:Qm)(w:QC)(base:Heap):Vl:=fun outer H s E e s'=>∃(ea C dx:Addr)(H':Hp),e=.ref ea/\base.StaysIn s'.heap/\s'.heap.FunFrames base outer/\ExcAt base s.heap.objs.size H' ea C dx (some .none) s'.heap/\s'.os=s.os/\SQ s'.gens /\
 Un (XY outer) [] H H' s.heap s'.heap/\HOk P w H' s'.heap/\E (.ref C) (some dx) H'
section
variable {P:Qm}{w:QC}{K:Qb}{mg:Str->Option Qe}{base:Heap}{k:Nat}{f:Addr}{fd:Qq}{ps:List Str}{sp sp':Sp}{CX:Vl}
def VY (X:Cx)(EE:St->XK):Prop:=∀(pins:List (Addr×Obj))(σ:St)(H1 H2:Hp)(s1 s2:Qg)(ea C dx:Addr)(fl:Option Qe),Inv X pins σ H1 s1->Inv X pins σ H2 s2->(fl=none\/fl=some .none)->ExcAt X.base s1.heap.objs.size H2 ea C dx fl s2.heap->EE σ (.ref C) (some dx) H2->X.xe (.ref ea) s2
theorem ZiF {N:List Str}{qual:Str}{scope:Scope}{cd:Qe}{A:QK}{outer:List Env}{s:Qg}{H:Hp}{E:XK}:VY (Uy (CX1 P w base) P w K mg base N qual scope f cd A outer s H E) (fun _=>E):=by
 intro pins σ H1 H2 s1 s2 ea C dx fl I1 I2 hfl x q
 have hsz:s.heap.objs.size<=s1.heap.objs.size:=I1.sz
 have hok2:HOk P w H2 s2.heap:=I2.hok
 refine ZkW (base:=base) (n:=s.heap.objs.size) (H:=H2) (outer:=outer) (L:=s.heap.objs.size) hfl I2.ok.frames I2.stack rfl I2.bk (x.le hsz) (fun b hb=>hok2.fresh hb) fun h' b1 f1 x1 k1=>?_
 have un:Un (XY outer) [] H H2 s.heap s2.heap:=I2.base
 have nL:∀ b o,s.heap.get? b=some o->b ∉ XY outer->b ∉ XY (Tg qual scope s.heap.objs.size f cd::outer):=fun b o e hf m=>by
  rcases mem_filterMap.mp m with ⟨v,hv,ev⟩
  rcases mem_cons.mp hv with rfl | hv
  ·cases (show some s.heap.objs.size=some b from ev);exact absurd (Qj e) (JG _)
  ·exact hf (mem_filterMap.mpr ⟨v,hv,ev⟩)
 have inL:∀ b,b∈XY outer->b∈XY (Tg qual scope s.heap.objs.size f cd::outer):=fun b m=>by
  obtain ⟨v,hv,ev⟩:=mem_filterMap.mp m
  exact mem_filterMap.mpr ⟨v,mem_cons_of_mem _ hv,ev⟩
 refine ⟨ea,C,dx,H2,rfl,b1,f1,x1,I2.os,I2.bare,⟨fun b o e hn hf hx=>k1.2.1 b o (un.keep b o e hn hf hx) (nL b o e hf) (.inr (Qj e)),fun b o e hn hf hx=>?_,un.free,fun b o e hx=>?_,un.tups,un.frzs,un.tbls⟩,k1.hok hok2 I2.stkFree,q⟩
 ·obtain ⟨sl,e1⟩:=un.slot b o e hn hf hx
  obtain ⟨sl2,e2⟩:=k1.1 b _ e1 (inL b hf)
  exact ⟨sl2,e2⟩
 ·obtain ⟨o',e1⟩:=un.there b o e hx
  by_cases m:b∈XY (Tg qual scope s.heap.objs.size f cd::outer)
  ·obtain ⟨sl,e2⟩:=k1.1 b o' e1 m;exact ⟨_,e2⟩
  ·exact ⟨o',k1.2.1 b o' e1 m (.inr (Qj e))⟩
end
abbrev Cx.tryc (X:Cx)(pn:List (Addr×Obj))(Z:Qe->Qg->Prop):Cx:={ X with pn:=pn,xe:=Z }
abbrev Cx.marked (X:Cx)(ea:Addr)(Z:Qe->Qg->Prop):Cx:={ X with A:=X.A.mark (some (.ref ea)),calm:=false,xe:=Z }
def XO (ea C dx:Addr):HO:=.ext fun h=>∃ oe vs,h.get? ea=some oe/\oe.cls=.ref C/\oe.dict=some dx/\oe.data=.fields vs
section
variable {X:Cx}{pins:List (Addr×Obj)}{σ:St}{H:Hp}{s:Qg}
theorem Inv.tryc (I:Inv X pins σ H s)(Z:Qe->Qg->Prop):Inv (X.tryc (X.pn++pins) Z) [] σ H s :=
 ⟨⟨I.ok.mod,I.ok.kind,I.ok.glob,I.ok.blt,I.ok.above,I.ok.inj,I.ok.has,I.ok.cab,I.ok.hd,I.ok.frames,I.ok.stk,I.ok.exf,I.ok.bs,I.ok.bsz,I.ok.noex,I.ok.exfs,I.ok.funs,I.ok.frf⟩,I.os,I.bare,I.base,I.loc,I.cell,I.free,I.freeC,fun p hp=>I.pin p (by rw [append_nil] at hp;exact hp),I.hok,I.len⟩
theorem Inv.untryc {pins':List (Addr×Obj)}{Z:Qe->Qg->Prop}(I:Inv (X.tryc (X.pn++pins) Z) pins' σ H s):Inv X pins σ H s :=
 ⟨⟨I.ok.mod,I.ok.kind,I.ok.glob,I.ok.blt,I.ok.above,I.ok.inj,I.ok.has,I.ok.cab,I.ok.hd,I.ok.frames,I.ok.stk,I.ok.exf,I.ok.bs,I.ok.bsz,I.ok.noex,I.ok.exfs,I.ok.funs,I.ok.frf⟩,I.os,I.bare,I.base,I.loc,I.cell,I.free,I.freeC,fun p hp=>I.pin p (Ju _ hp),I.hok,I.len⟩
theorem Inv.mark (I:Inv X pins σ H s)(ea:Addr)(Z:Qe->Qg->Prop):Inv (X.marked ea Z) pins σ H s :=
 ⟨⟨I.ok.mod,I.ok.kind,I.ok.glob,I.ok.blt,I.ok.above,I.ok.inj,I.ok.has,I.ok.cab,(fun z=>by cases z),I.ok.frames,I.ok.stk,I.ok.exf,I.ok.bs,I.ok.bsz,I.ok.noex,I.ok.exfs,I.ok.funs,I.ok.frf⟩,I.os,I.bare,I.base,I.loc,I.cell,I.free,I.freeC,I.pin,I.hok,I.len⟩
theorem Inv.unmark {ea:Addr}{Z:Qe->Qg->Prop}(I:Inv (X.marked ea Z) pins σ H s)(hd:X.calm=true->X.A.handled=none):Inv X pins σ H s :=
 ⟨⟨I.ok.mod,I.ok.kind,I.ok.glob,I.ok.blt,I.ok.above,I.ok.inj,I.ok.has,I.ok.cab,hd,I.ok.frames,I.ok.stk,I.ok.exf,I.ok.bs,I.ok.bsz,I.ok.noex,I.ok.exfs,I.ok.funs,I.ok.frf⟩,I.os,I.bare,I.base,I.loc,I.cell,I.free,I.freeC,I.pin,I.hok,I.len⟩
theorem ZmP {M:Rx}{A:QK}{E:Qe->Qg->Prop}{i:Nat}{x:Str}{pos:Pos}{Q:Unit->Qg->Prop}(I:Inv X pins σ H s)(hN:X.N.Nodup)(hi:X.N[i]?=some x)(hk:X.env.kindOf x=some .local)
 (h:∀ s',Inv X pins (σ.set i none) H s'->Q () s'):Qr M A (do Pm X.env x .none;OR X.env x pos) Q E s:=by
 obtain ⟨m,hn,hl⟩:=id I.loc
 have hcls:(X.env.scope.kind == .class || (X.env.scope.kind == .module&&X.env.locals != X.env.globals))=false:=by rw [I.ok.kind];rfl
 have cne:=I.cne
 refine wpAny_nameGoes_keeps hk hn hcls fun h' v hn' hs=>?_
 obtain ⟨oL,_,_,hoL,_⟩:=id hn
 refine h _ ⟨I.ok,I.os,I.bare,⟨fun b o e n hb hx=>?_,fun b o e n hb hx=>?_,I.base.free,fun b o e hx=>?_,I.base.tups,I.base.frzs,I.base.tbls⟩,⟨_,hn',fun j y v' e1 e2 e3=>?_⟩,fun y c e=>?_,I.free,I.freeC,fun p hp=>?_,fun b ob e=>?_,by simpa using I.len⟩
 ·exact (hs.2 b (Qt (QB (Qj e) I.ok.above))).trans (I.base.keep b o e n hb hx)
 ·obtain ⟨sl,e1⟩:=I.base.slot b o e n hb hx
  exact ⟨sl,(hs.2 b (Qt (QB (Qj e) I.ok.above))).trans e1⟩
 ·obtain ⟨o',e1⟩:=I.base.there b o e hx
  exact ⟨o',(hs.2 b (Qt (QB (Qj e) I.ok.above))).trans e1⟩
 ·by_cases hj:j=i
  ·subst hj
   rw [List.getElem?_set] at e2
   split at e2
   ·split at e2<;>cases e2
   ·rename_i z;exact absurd rfl z
  ·rw [Sw (GR hj)] at e2
   obtain ⟨u',r',q⟩:=hl j y v' e1 e2 e3
   refine ⟨u',r',?_⟩
   rcases q with ⟨k,e⟩ | ⟨k,c,e,z⟩
   ·refine .inl ⟨k,?_⟩
    have:y≠x:=fun e=>hj (ZbE hN e1 (e ▸ hi))
    simp [this,e]
   ·exact .inr ⟨k,c,e,z.sameBut hs (cne y c e)⟩
 ·obtain ⟨w',z⟩:=I.cell y c e
  exact ⟨w',z.sameBut hs (cne y c e)⟩
 ·obtain ⟨e,n,ne,nf,d⟩:=I.pin p hp
  exact ⟨(hs.2 p.1 ne).trans e,n,ne,nf,d⟩
 ·refine (I.hok b ob e).stay (fun c w' hc q=>(hs.2 c ?_).trans q) (fun _ q=>q) fun _ _ q=>q
  rintro rfl
  rcases hc with rfl | hc
  ·rw [I.free] at e;cases e
  ·rw [I.free] at hc;cases hc
end
def ZoM (K:Qb)(C0:Addr)(i:Nat)(tb:(St->XK)->TS)(th:TS):TS:=fun D σ H =>
 tb (fun σ' Cv dO H'=>∃ C dx,Cv=.ref C/\dO=some dx/\PySem.W.exmOne K (.ref C) (.ref C0)=some true/\∀ ea,H' ea=none ->
  th { nx:=fun σ2 H2=>D.nx (σ2.set i none) H2,rt:=D.rt,bk:=fun σ2 H2=>D.bk (σ2.set i none) H2,ct:=fun σ2 H2=>D.ct (σ2.set i none) H2 } (σ'.set i (some (.ref ea))) (upd H' ea (XO ea C dx))) D σ H
section
variable {X:Cx}{body suite:List Stmt}{b0:Stmt}{C0:Addr}{x0 n:Str}{i:Nat}{tb:(St->XK)->TS}{th:TS}{p0 hp pos:Pos}
theorem Zkt (hcalm:X.calm=true)(hst:X.stack=X.env::X.outer)(hfr:X.env.frame=some X.env.locals)(hN:X.N.Nodup)(hi:X.N[i]?=some n)(hk:X.env.kindOf n=some .local)(hg:Gl X x0)(hm:X.mg x0=some (.ref C0))(hdb:(x0 == ("__debug__":Str))=false)
 (hb:∀ pn Z EE,VY (X.tryc pn Z) EE->PSs (X.tryc pn Z) body (tb EE)) (hh:∀ ea Z,PSs (X.marked ea Z) (b0::suite) th) :
 PS X (.Try body [.ExceptHandler (some (.Name x0 p0)) (some n) (b0::suite) hp] [] [] pos) (ZoM X.K C0 i tb th):=by
 intro pins s σ H D I h
 rw [arm_exec_Try]
 refine Qd (GC (wpAny_tryStmt_except ?_))
 refine QY (hb (X.pn++pins) _ _ ?W [] s σ H D (I.tryc _) h) (fun f s1 hs=>?_) (fun e s1 z=>z)
 case W =>
  intro pins' σ1 H1 H2 s1 s2 ea C dx fl I1 I2 hfl x q
  have J1:=I1.untryc
  have J2:=I2.untryc
  obtain ⟨C',dx',e1,e2,hex,hq⟩:=q
  cases e1
  cases e2
  have fr:X.A.frames=some (X.env::X.outer):=by rw [<- hst];exact J2.ok.frames
  have ff:s2.heap.FunFrames X.base (X.env::X.outer):=by rw [<- hst];exact J2.stack
  have off:∀ {h:Heap},h.FunFrames X.base (X.env::X.outer)->∀ b∈XY (X.env::X.outer),∃ o,h.get? b=some o/\∀ vs,o.data≠.fields vs:=fun f b hb=>(f.mem hb).2
  refine Zfx (base:=X.base) (n:=s1.heap.objs.size) (H:=H2) hfl fr ff hfr J2.bk x (fun b hb=>J2.hok.fresh hb) fun h3 b3 f3 x3 k3=>?_
  refine ZaG b3 f3 x3 fun h4 b4 f4 x4 k4=>?_
  have k34:=k3.trans (k4 _ (off f3))
  have J4:Inv X pins σ1 H2 { s2 with heap:=h4 }:=J1.flown (t':=s2.toks) J2 (by rw [hst];exact k34)
  refine wpAny_handleBy_cons (codeAny_handlers_test ?_) (by intro q;cases q)
  refine Vc (X:=X.marked ea X.xe) (J4.mark ea X.xe) hg hm ?_ hdb
  have LT:Jg (QA X.prog X.w) h4 (typeOf (.ref ea)) (.ref C):=by
   obtain ⟨_,_,_,oe,vs,he,hc,_⟩:=x4
   rw [<- hc];exact (Mr he).andThen .now
  refine (PySem.W.exm_one (h:=h4) J4.kIn LT hex) _ _ _ _ (fun _ _ e=>e) ?_
  refine codeAny_handlers_suite_as ?_
  refine ZaG b4 f4 x4 fun h5 b5 f5 x5 k5=>?_
  have k45:=k34.trans (k5 _ (off f4))
  have J5:Inv X pins σ1 H2 { s2 with heap:=h5 }:=J1.flown (t':=s2.toks) J2 (by rw [hst];exact k45)
  obtain ⟨hen,hHe,hne,oe,vs,he,hc,hdi,hd,_⟩:=id x5
  have lt1:∀ b,b < s1.heap.objs.size->b≠ea:=fun b hb z=>by rw [z] at hb;exact absurd hb (JJ.mpr hne)
  have J6:Inv X pins σ1 (upd H2 ea (XO ea C dx)) { s2 with heap:=h5 }:=by
   refine J5.track hHe (Qw J1.sz hne) (fun z=>lt1 _ J1.lt z.symm) (fun y c hy=>?_) (fun p hp=>lt1 _ (Qj (J1.pin p hp).1)) ?_
   ·obtain ⟨v,o,e,_⟩:=J1.cell y c hy
    exact lt1 _ (Qj e)
   ·exact ⟨⟨oe,vs,he,hc,hdi,hd⟩,⟨oe,he⟩,fun h1 h2 ⟨oe,vs,e,r⟩ k=>⟨oe,vs,k _ e,r⟩⟩
  refine XA (X:=X) J6 hN hi (.inl hk) (v:=.ref ea) rfl (fun s6 J8=>?_) (.inr hk)
  refine QY (hh ea _ pins s6 _ _ _ (J8.mark ea _) (hq ea hHe)) (fun f s7 hs=>?_) (fun _ _ z=>z)
  have back:∀ {Z:Qe->Qg->Prop} {σ':St} {H':Hp} {Q:Unit->Qg->Prop},Inv (X.marked ea Z) pins σ' H' s7->(∀ s',Inv X pins (σ'.set i none) H' s'->Q () s')->Qr (QA X.prog X.w) X.A (do Pm X.env n .none;OR X.env n hp) Q X.xe s7:=fun J q=>ZmP (J.unmark J1.ok.hd) hN hi hk q
  cases f with
  | next=>obtain ⟨σ',H',J,q⟩:=hs;exact back J fun s' J'=>⟨_,H',J',q⟩
  | brk=>obtain ⟨σ',H',J,q⟩:=hs;exact back J fun s' J'=>⟨_,H',J',q⟩
  | cont=>obtain ⟨σ',H',J,q⟩:=hs;exact back J fun s' J'=>⟨_,H',J',q⟩
  | ret u=>obtain ⟨v,σ',H',J,r,q⟩:=hs;exact back J fun s' J'=>⟨v,_,H',J',r,q⟩
 ·cases f with
  | next=>obtain ⟨σ',H',J,q⟩:=hs;exact Qk ⟨σ',H',J.untryc,q⟩
  | brk=>obtain ⟨σ',H',J,q⟩:=hs;exact ⟨σ',H',J.untryc,q⟩
  | cont=>obtain ⟨σ',H',J,q⟩:=hs;exact ⟨σ',H',J.untryc,q⟩
  | ret u=>obtain ⟨v,σ',H',J,r,q⟩:=hs;exact ⟨v,σ',H',J.untryc,r,q⟩
end
def Zkr (P:Qm)(w:QC)(K:Qb)(mg:Str->Option Qe)(base:Heap)(k:Nat)(x:Str)(ps:List Str)(sp:Sp):Prop :=
 ∃ f fd,FnOk P w K mg base (CX1 P w base) k f fd ps sp/\Binds K fd ps []/\Gk K (.ref f)=true/\mg x=some (.ref f)
section
variable {P:Qm}{w:QC}{K:Qb}{mg:Str->Option Qe}{base:Heap}{j k:Nat}{C:Addr}{x m:Str}{ps:List Str}{sp:Sp}
end
def ZnN (sp:Sp)(EE:St->XK)(t:TA):TE:=fun σ H Q=>t σ H fun vs H1=>sp vs H1 Q (EE σ)
section
variable {X:Cx}{EE:St->XK}{k:Nat}{f C:Addr}{fd:Qq}{ps:List Str}{sp:Sp}{x m:Str}{p pos apos:Pos}{e o:Expr}{es:List Expr}{ta:TE}{t:TA}
theorem Zfv {pins:List (Addr×Obj)}{σ:St}{H:Hp}{s:Qg}{Q:VK}{us:List Qe}{vs:List V}(W:VY X EE)(F:FnOk X.prog X.w X.K X.mg X.base (CX1 X.prog X.w X.base) k f fd ps sp)(hr:Room k X.A)(hb:Binds X.K fd ps [])
 (I:Inv X pins σ H s) (r:Vals vs us) (h:sp vs H Q (EE σ)):Qr (QA X.prog X.w) X.A (call (.ref f) us) (EP X pins σ Q) X.xe s:=by
 have hl:(us++[]).length=ps.length:=by rw [append_nil,<- r.length];exact F.len _ _ _ _ h
 have hb':=hb s us I.kIn hl
 rw [append_nil] at hb'
 refine Rl (JW (F.run X.A X.stack s H ⟨us,[]⟩ us vs Q (EE σ) hr I.env0 hb' r h) fun r s' hq=>?_)
 cases r with
 | error e =>
  obtain ⟨ea,C,dx,H',rfl,kb,ff,x,os,gb,un,hok,q⟩:=hq
  exact W pins σ H H' s s' ea C dx _ I (I.call' os un hok gb fun b z=>absurd z (by simp)) (.inr rfl) x q
 | ok fl =>
  cases fl with
  | ret u=>exact I.after hq
  | next=>exact Gh hq
  | brk=>exact Gh hq
  | cont=>exact Gh hq
theorem Zpn (W:VY X EE)(D:Zkr X.prog X.w X.K X.mg X.base k x ps sp)(hr:Room k X.A)(ha:PA X (e::es) t)(hg:Gl X x:=by rfl)(hdb:(x == ("__debug__":Str))=false:=by decide)
 (he:QH (e::es) X.env=(false,eval e X.env)::QH es X.env:=by rfl) (hpl:(Jp pos (QH es X.env)).any (·.1)=false:=by rfl):PE X (.Call (.Name x p) (e::es) [] pos) (ZnN sp EE t):=by
 obtain ⟨f,fd,F,b,kp,m⟩:=D
 intro pins s σ H Q I h
 refine Gc (Vc I hg m ?_ hdb)
 refine JX (h₀:=X.base) I.ok.mod.kin kp (Zt (ha pos pins s σ H _ I h) fun us s1 ⟨vs,H1,I1,r,q⟩=>⟨I1.kIn,?_⟩) he hpl
 exact Zfv W F hr b I1 r q
end
theorem Fun.okX {P:Qm}{w:QC}{K:Qb}{mg:Str->Option Qe}{base:Heap}{x qual:Str}{st:Stmt}{f:Addr}{fd:Qq}{N ps:List Str}{k:Nat}{sp:Sp}(F:Fun K x qual st f fd)(S:ZB N ps (Zl st))(len:∀ vs H Q E,sp vs H Q E->vs.length=ps.length)
 (hbody:∀ (cdv:Qe) (A:QK) (outer:List Env) (s:Qg) (H:Hp) (vs:List V) (Q:VK) (E:XK),Room k (A.deeper (Tg qual (Zl st) s.heap.objs.size f cdv))->sp vs H Q E ->
  VY (Uy (CX1 P w base) P w K mg base N qual (Zl st) f cdv A outer s H E) (fun _=>E) ->
  ∃ t,PSs (Uy (CX1 P w base) P w K mg base N qual (Zl st) f cdv A outer s H E) (Us st) t/\t { nx:=fun _ H'=>Q .non H',rt:=Q } (start N vs) H):FnOk P w K mg base (CX1 P w base) (k+1) f fd ps sp:=by
 obtain ⟨oc,od,kV,doc,pm,an,cdv,ct,osl,rfl,lk,hcd⟩:=F.ex
 exact Zlp lk hcd S len fun A outer s H vs Q E hr hsp=>hbody cdv A outer s H vs Q E hr hsp ZiF
def XN (ea C:Addr):HO:=.ext fun h=>∃ t:Addr,h.get? ea=some { cls:=.ref C,data:=.fields #[.ref t,.none,.none,.none,.bool false,.none] }
def XW (ea C dx:Addr):HO:=.ext fun h=>∃ t:Addr,h.get? ea=some { cls:=.ref C,dict:=some dx,data:=.fields #[.ref t,.none,.none,.none,.bool false,.none] }
structure XF (K:Qb)(C fI:Addr):Prop where
 xc:Zez K C=true
 init:Gx K (.ref C) "__init__"=some (some (.ref fI))
 sa:Gx K (.ref C) "__setattr__"=some (some (.builtin "object.__setattr__"))
 nw:Gx K (.ref C) "what"=some none
 fn:PySem.W.isFn K (.ref fI)=true
 kp:Gk K (.ref C)=true
def Zpc (K:Qb)(ta tv:TE):TS:=fun D σ H=>tv σ H fun y H1=>ta σ H1 fun x H2=>∃ ea C fI,x=.ref ea/\H2 ea=some (XN ea C)/\XF K C fI/\∀ dx,H2 dx=none->dx≠ea->D.nx σ (upd (upd H2 dx (.xd [("what",y)])) ea (XW ea C dx))
section
variable {X:Cx}{o value:Expr}{pos pos':Pos}{ta tv:TE}
theorem Zma (ha:PE X o ta)(hv:PE X value tv)(hs:Rf value (some (.Attribute o "what" pos')) pos.line X.env=pure false):PS X (.Assign [.Attribute o "what" pos'] value pos) (Zpc X.K ta tv):=by
 intro pins s σ H D I h
 refine plainObj_wpAny_Assign_Attribute (Zt (hv pins s σ H _ I h) fun u s1 ⟨y,H1,I1,ry,q⟩=>Zt (ha pins s1 σ H1 _ I1 q) fun ov s2 ⟨x,H2,I2,rx,ea,C,fI,ex,hea,xf,q2⟩=>?_) hs
 subst ex
 obtain rfl:ov=Qz ea:=rx
 obtain ⟨⟨t,hx⟩,_,_⟩:=(show ObjOk X.prog X.w H2 s2.heap ea (XN ea C) from I2.hok ea _ hea)
 obtain ⟨nm,qn,N,bs,bm,sn,sub,ab,col,dd,k0,k1,k2,k3,k5,hC,T⟩:=ZaV I2.kIn xf.xc
 obtain ⟨hh,g,d,tk,os⟩:=s2
 have hdn:H2 hh.objs.size=none:=I2.hok.fresh (Qh _)
 have hne:hh.objs.size≠ea:=GY (Qj hx)
 refine Zmp T hC (Gr I2.kIn xf.sa) (Gr I2.kIn xf.nw) hx rfl rfl (fun c z=>by cases z) fun h' tk' hx' hns hk=>⟨σ,_,?_,q2 _ hdn hne⟩
 have nea:∀ b,H2 b=none->b≠ea:=fun b e z=>by rw [z,hea] at e;cases e
 have ndx:∀ b ob,hh.get? b=some ob->b≠hh.objs.size:=fun b ob e=>Qt (Qj e)
 refine I2.un (h':=h') (t':=tk') ⟨fun b ob e n _ _=>hk b ob (nea b n) e,fun b ob e n _ _=>⟨ob.slots,hk b ob (nea b n) e⟩,fun b ob e n _=>by rw [Zn (nea b n),Zn (ndx b ob e)];exact n,fun b ob e _=>?_,fun b xs e=>?_,fun b w xs e=>?_,fun b ps e=>?_⟩ fun b w e=>?_
 ·by_cases z:b=ea
  ·rw [z];exact ⟨_,hx'⟩
  ·exact ⟨ob,hk b ob z e⟩
 ·rw [Zn (fun z=>by rw [z,hea] at e;cases e),Zn (ZL e hdn)];exact e
 ·rw [Zn (fun z=>by rw [z,hea] at e;cases e),Zn (ZL e hdn)];exact e
 ·exact ⟨#[],by rw [Zn (fun z=>by rw [z,hea] at e;cases e),Zn (ZL e hdn),e];simp⟩
 ·by_cases z:b=ea
  ·subst z;rw [Ze] at e;cases e
   exact ⟨⟨t,hx'⟩,⟨_,hx'⟩,fun h1 h2 ⟨t,e⟩ k=>⟨t,k _ e⟩⟩
  ·rw [Zn z] at e
   by_cases z2:b=hh.objs.size
   ·subst z2;rw [Ze] at e;cases e
    refine ⟨_,hns,fun f=>?_⟩
    show RelO (List.lookup f [("what",y)]) (if f="what" then some u else none)
    by_cases hf:f="what"
    ·rw [if_pos hf,hf];exact ry
    ·rw [if_neg hf]
     have hb:(f == ("what":Str))=false:=beq_eq_false_iff_ne.mpr hf
     simp only [List.lookup,hb];exact GN
   ·rw [Zn z2] at e
    refine (I2.hok b w e).stay (fun c u hc q=>?_) (fun c q=>?_) (fun c xs q=>?_)
    ·refine hk c u (fun y=>?_) q
     rcases hc with rfl | hc
     ·exact z y
     ·rw [y,hea] at hc;cases hc
    ·rw [Zn (fun y=>by rw [y,hea] at q;cases q),Zn (ZL q hdn)];exact q
    ·rw [Zn (fun y=>by rw [y,hea] at q;cases q),Zn (ZL q hdn)];exact q
end
def Zlg (K:Qb):Sp:=fun vs H Q _=>∃ (ea C fI:Addr) (v:V),vs=[.ref ea,v]/\H ea=some (XN ea C)/\XF K C fI/\∀ dx,H dx=none->dx≠ea->Q .non (upd (upd H dx (.xd [("what",v)])) ea (XW ea C dx))
def ZkS (P:Qm)(w:QC)(K:Qb)(mg:Str->Option Qe)(base:Heap)(k:Nat)(C:Addr)(x:Str):Prop :=
 ∃ fI fd,FnOk P w K mg base Yc k fI fd ["self","what"] (Zlg K)/\Binds K fd ["self","what"] []/\XF K C fI/\mg x=some (.ref C)
def ZnA (C:Addr)(EE:St->XK)(t:TA):TS:=fun _ σ H=>t σ H fun vs H1=>∃ v,vs=[v]/\∀ dx,H1 dx=none->EE σ (.ref C) (some dx) (upd H1 dx (.xd [("what",v)]))
section
variable {X:Cx}{pins:List (Addr×Obj)}{σ:St}{H:Hp}{s:Qg}
def del (H:Hp)(a:Addr):Hp:=fun b=>if b=a then none else H b
theorem Vm {a b:Addr}(h:b≠a):del H a b=H b:=if_neg h
theorem Inv.untrack {a:Addr}{φ:Heap->Prop}(I:Inv X pins σ H s)(e:H a=some (.ext φ))(O:X.Old a):Inv X pins σ (del H a) s:=by
 have off:∀ b,H b=none->del H a b=none:=fun b n=>by unfold del;split;rfl;exact n
 refine ⟨I.ok,I.os,I.bare,⟨I.base.keep,I.base.slot,fun b u q n hx=>off b (I.base.free b u q n hx),I.base.there,fun b xs q=>?_,fun b u xs q=>?_,fun b ps q=>?_⟩,I.loc,I.cell,off _ I.free,fun x c hx=>off _ (I.freeC x c hx),fun p hp=>?_,fun b u q=>?_,I.len⟩
 ·rw [Vm (O.nt q)];exact I.base.tups b xs q
 ·rw [Vm (O.nf q)];exact I.base.frzs b u xs q
 ·rw [Vm (O.nb q)];exact I.base.tbls b ps q
 ·obtain ⟨e1,e2,e3⟩:=I.pin p hp
  exact ⟨e1,off _ e2,e3⟩
 ·by_cases z:b=a
  ·subst z;unfold del at q;rw [if_pos rfl] at q;cases q
  ·rw [Vm z] at q
   exact (I.hok b u q).stay (fun _ _ _ y=>y) (fun c y=>by rw [Vm (fun z=>by rw [z,e] at y;cases y)];exact y) (fun c xs y=>by rw [Vm (fun z=>by rw [z,e] at y;cases y)];exact y)
end
section
variable {X:Cx}{EE:St->XK}{k:Nat}{C:Addr}{x:Str}{np cpos pos:Pos}{e:Expr}{t:TA}
theorem ZjE (W:VY X EE)(D:ZkS X.prog X.w X.K X.mg X.base k C x)(hr:Room (k+1) X.A)(hcalm:X.calm=true)(ha:PA X [e] t)(hg:Gl X x:=by rfl)(hdb:(x == ("__debug__":Str))=false:=by decide)
 (he:QH [e] X.env=(false,eval e X.env)::QH [] X.env:=by rfl) (hpl:(Jp cpos (QH [] X.env)).any (·.1)=false:=by rfl):PS X (.Raise (some (.Call (.Name x np) [e] [] cpos)) none pos) (ZnA C EE t):=by
 obtain ⟨fI,fd,F,hb,xf,hm⟩:=D
 intro pins s σ H D I h
 rw [arm_exec_Raise]
 obtain ⟨nm,qn,N,bs,bm,sn,sub,ab,col,dd,k0,k1,k2,k3,k5,hCb,T⟩:=ZaV I.ok.mod.kin xf.xc
 refine Qd (GC (Znc (C:=C) (nm:=nm) (q:=qn) (N:=N) (bs:=bs) (sn:=sn) (sub:=sub) (ab:=ab) (col:=col) (dd:=dd) (k0:=k0) (k1:=k1) (k2:=k2) (k3:=k3) (k5:=k5) T (I.ok.hd hcalm) (Qd ?_)))
 refine QY (Q:=fun v s₁=>∃ e oe vs,v=.ref e/\s₁.heap.get? C=some (JD nm qn C N bs bm true sn sub ab col dd k0 k1 k2 k3 k5 "ValueError.__new__")/\s₁.heap.get? e=some oe/\oe.cls=.ref C/\oe.data=.fields vs/\vs[1]?=some .none/\X.xe (.ref e) s₁) ?_ (fun v s1 h1=>Qd (GC (Qk h1))) fun _ _ x=>x
 refine Gc (Vc I hg hm ?_ hdb)
 refine JX (h₀:=X.base) I.ok.mod.kin xf.kp (Zt (ha cpos pins s σ H _ I h) fun us s1 ⟨vs,H1,I1,r,v,ev,q⟩=>⟨I1.kIn,?_⟩) he hpl
 subst ev
 obtain ⟨u,rfl,ru⟩:=YU r
 obtain ⟨hh,g,d,tk,os⟩:=s1
 have hC1:=I1.bk _ _ hCb
 obtain ⟨oI,hoI,hoc⟩:∃ oI,hh.get? fI=some oI/\oI.cls=.type "function":=by
  obtain ⟨oI,ho,hc⟩:=QD.mp (show (X.K.lookup fI).map (·.cls)=some (.type "function") from beq_iff_eq.mp xf.fn)
  exact ⟨oI,I1.kIn _ _ ho,hc⟩
 refine Znn T hC1 (Gr I1.kIn xf.init) hoI hoc (fun h' ea hm' hle=>?_) (by show 1<=Qi;decide)
 obtain ⟨t0,h0,h1,h2⟩:=hm'.there
 have hH1:H1 ea=none:=I1.hok.fresh hle
 have I2:Inv X pins σ (upd H1 ea (XN ea C)) ⟨h',g,d,tk,os⟩:=I1.laid (a:=ea) (o:=XN ea C) (h':=h') (t':=tk) hm'.keeps hle ⟨⟨t0,h0⟩,⟨_,h0⟩,fun h1 h2 ⟨t,e⟩ k=>⟨t,k _ e⟩⟩
 have hsp:Zlg X.K [.ref ea,v] (upd H1 ea (XN ea C)) (fun w H'=>w=.non/\∃ dx,H1 dx=none/\dx≠ea/\H'=upd (upd (upd H1 ea (XN ea C)) dx (.xd [("what",v)])) ea (XW ea C dx)) E0 :=
  ⟨ea,C,fI,v,rfl,Ze,xf,fun dx h1 h2=>⟨rfl,dx,by rw [Zn h2] at h1;exact h1,h2,rfl⟩⟩
 have r2:Vals [V.ref ea,v] [Qz ea,u]:=.cons rfl (.cons ru .nil)
 refine Rl (JW (F.run _ X.stack _ _ ⟨[.ref ea,u],[]⟩ [.ref ea,u] _ _ E0 (hr.make C [u] []) (I2.env0.make C [u] []) (hb _ [.ref ea,u] I2.kIn rfl) r2 hsp) fun r s' hq=>?_)
 cases r with
 | error e=>exact hq.elim
 | ok fl =>
  cases fl with
  | next=>exact Gh hq
  | brk=>exact Gh hq
  | cont=>exact Gh hq
  | ret u' =>
   obtain ⟨w,H3,I3,rw',⟨ew,dx,hdx,hde,eH⟩⟩:=I2.after hq
   subst ew eH
   refine ⟨rw',?_⟩
   have at3:upd (upd (upd H1 ea (XN ea C)) dx (.xd [("what",v)])) ea (XW ea C dx) ea=some (XW ea C dx):=Ze
   obtain ⟨⟨t3,hx3⟩,_,_⟩:=(show ObjOk X.prog X.w _ s'.heap ea (XW ea C dx) from I3.hok ea _ at3)
   have I4:=I3.untrack at3 (I1.old hH1)
   have eq4:del (upd (upd (upd H1 ea (XN ea C)) dx (.xd [("what",v)])) ea (XW ea C dx)) ea=upd H1 dx (.xd [("what",v)]):=by
    funext b
    by_cases z:b=ea
    ·subst z;unfold del;rw [if_pos rfl,Zn (GR hde)];exact hH1.symm
    ·rw [Vm z,Zn z]
     by_cases z2:b=dx
     ·subst z2;rw [Ze,Ze]
     ·rw [Zn z2,Zn z2,Zn z]
   rw [eq4] at I4
   refine ⟨ea,_,_,rfl,I3.bk _ _ hCb,hx3,rfl,rfl,rfl,?_⟩
   refine W pins σ H1 _ ⟨hh,g,d,tk,os⟩ s' ea C dx none I1 I4 (.inl rfl) ⟨?_,by rw [Zn (GR hde)];exact hH1,hle,_,_,hx3,rfl,rfl,rfl,rfl⟩ (q dx hdx)
   cases qb:X.base.get? ea with
   | none=>rfl
   | some ob=>have:=I1.bk _ _ qb;rw [hm'.new] at this;cases this
end
end L2
namespace L2
open PySem PySem.Spec PyProof.Rows
open PySem.Builtin PySem.Builtin.ObjectAttr
section
variable {prog:Qm}{w:QC}{A:QK}{E:Qe->Qg->Prop}{h:Heap}{g:Array NH}{d:Drawn}{t:Nat}{os:OsState}
variable {nm q:Str}{C N a dx:Addr}{bs bm:List Qe}{sn:List Str}{sub:List Qe}{ab:Bool}{col:Option Bool}{dd:Option Addr}{k0 k1 k2 k3 k5:Option Qe}{name:Str}{v:Qe}{o:Obj}{vs:Array Qe}{mA:Str->Option Qe}
abbrev Zcd (h:Heap)(nm q:Str)(C N:Addr)(bs bm:List Qe)(sn:List Str)(sub:List Qe)(ab:Bool)(col:Option Bool)(dd:Option Addr)(k0 k1 k2 k3 k5:Option Qe):Prop:=h.get? C=some (JD nm q C N bs bm true sn sub ab col dd k0 k1 k2 k3 k5 "ValueError.__new__")
theorem ZgJ {M:Rx}{nameV:Qe}{Q:Unit->Qg->Prop}(T:VT bm)(hC:Zcd h nm q C N bs bm sn sub ab col dd k0 k1 k2 k3 k5)
 (hx:h.get? a=some o) (hc:o.cls=.ref C) (hq:Q () ⟨h,g,d,t,os⟩):Qr M A (GX "BaseException.__getattribute__" ⟨[.ref a,nameV],[]⟩) Q E ⟨h,g,d,t,os⟩:=by
 have hk:builtinKind "BaseException.__getattribute__"=some .slot:=by decide +kernel
 have hsplit:splitId "BaseException.__getattribute__"=some ("BaseException","__getattribute__"):=by decide +kernel
 have hcB:(Qz C::bm).contains (.type "BaseException")=true:=by rw [contains_cons,T.has Ra.hasBase];rfl
 have ha:=PySem.F.args_bexc_ga (.ref a) nameV
 simp only [GX,hk,hsplit]
 refine Qd ?_
 ·unfold isInstance
  repeat (first | (with_reducible refine QQ hx ?_;rw [hc]) | (with_reducible refine GU hC ?_;rw [hcB]) | wp_step)
  exact hq
theorem x_by {tk:Tok}{fill expr:Bool}{Q:Qe->Qg->Prop}(T:VT bm)(hC:Zcd h nm q C N bs bm sn sub ab col dd k0 k1 k2 k3 k5)
 (LG:Jg (QA prog w) h (GF (.ref C) "__getattribute__") (some (.builtin "BaseException.__getattribute__"))) (LA:Jg (QA prog w) h (GF (.ref C) "__getattr__") none)
 (hx:h.get? a=some o) (hc:o.cls=.ref C) (hh:handedOut v=pure v)
 (he:∀ (A:QK) (R:Nd->Qg->Prop) (E:Qe->Qg->Prop),R (.done (.ret v)) ⟨h,g,d,t,os⟩->Qr (QA prog w) A (Tb.«object.__getattribute__» ⟨[.ref a,.str name tk],[]⟩) R E ⟨h,g,d,t,os⟩) (hq:Q v ⟨h,g,d,t,os⟩) :
 Qr (QA prog w) A (getAttrBy (.ref a) (.str name tk) fill expr) Q E ⟨h,g,d,t,os⟩:=by
 have FB:=Ra
 have f3:=FB.ga.bind (.ref a)
 have hx0:(expr&&onTheHeap (Sq "BaseException.__getattribute__"))=false:=by cases expr<;>rfl
 have hx2:(Sq "BaseException.__getattribute__" == Sq "object.__getattribute__")=false:=by decide +kernel
 have hx1:(onTheHeap (Qz C)&&Sq "BaseException.__getattribute__" == Sq "object.__getattribute__")=false:=by rw [hx2];rfl
 have LG':∀ {A:QK} {Q:Option Qe->Qg->Prop} {E:Qe->Qg->Prop},Q (some (.builtin "BaseException.__getattribute__")) ⟨h,g,d,t,os⟩->Qr (QA prog w) A (GF (.ref C) "__getattribute__") Q E ⟨h,g,d,t,os⟩:=fun q=>LG _ _ _ _ (fun _ _ e=>e) q
 have LA':∀ {A:QK} {Q:Option Qe->Qg->Prop} {E:Qe->Qg->Prop},Q none ⟨h,g,d,t,os⟩->Qr (QA prog w) A (GF (.ref C) "__getattr__") Q E ⟨h,g,d,t,os⟩:=fun q=>LA _ _ _ _ (fun _ _ e=>e) q
 repeat (any_goals (first | assumption | (with_reducible refine QQ hx ?_;rw [hc]) | with_reducible refine LG' ?_ | with_reducible refine LA' ?_ | wp_step))
 refine JA FB.ga.plain PySem.F.entry_bexc_ga (ZgJ T hC hx hc (he _ _ _ ?_))
 show Qr _ _ (handedOut v) _ _ _
 rw [hh]
 exact Qk hq
theorem ZnQ {tk:Tok}{Q:Nd->Qg->Prop}(hC:Zcd h nm q C N bs bm sn sub ab col dd k0 k1 k2 k3 k5)(LN:Jg (QA prog w) h (GF (.ref C) name) none)
 (hx:h.get? a=some o) (hc:o.cls=.ref C) (hdi:o.dict=some dx) (hd:o.data=.fields vs) (hns:h.Ns1 dx mA) (hv:mA name=some v) (hq:Q (.done (.ret v)) ⟨h,g,d,t,os⟩) :
 Qr (QA prog w) A (Tb.«object.__getattribute__» ⟨[.ref a,.str name tk],[]⟩) Q E ⟨h,g,d,t,os⟩:=by
 have LN':∀ {A:QK} {Q:Option Qe->Qg->Prop} {E:Qe->Qg->Prop},Q none ⟨h,g,d,t,os⟩->Qr (QA prog w) A (GF (.ref C) name) Q E ⟨h,g,d,t,os⟩:=fun q=>LN _ _ _ _ (fun _ _ e=>e) q
 unfold Tb.«object.__getattribute__»
 repeat (first | (with_reducible refine QQ hx ?_;rw [hc]) | (with_reducible refine LN' ?_) | wp_step)
 split
 ·rename_i c hcd
  rw [hd] at hcd;cases hcd
 unfold instanceDict
 repeat (first | (with_reducible refine QQ hx ?_;rw [hc]) | with_reducible refine QQ hC ?_ | wp_step)
 rw [hdi]
 repeat (first | (with_reducible refine wpAny_nsGet hns.ns ?_;rw [hv]) | wp_step)
 exact hq
theorem Zfn {R:Oh->Qg->Prop}(T:VT bm)(hC:Zcd h nm q C N bs bm sn sub ab col dd k0 k1 k2 k3 k5)(hx:h.get? a=some o)(hc:o.cls=.ref C)(hq:R (.ok (.ret (.ref C))) ⟨h,g,d,t,os⟩) :
 Pf (QA prog w) A (.call (.builtin "getset_descriptor.__get__") ⟨[.builtin "object.__class__",.ref a,.ref C],[]⟩) R ⟨h,g,d,t,os⟩:=by
 have hT5:(⟨h,g,d,t,os⟩:Qg).TypeIs (.builtin "object.__class__") "getset_descriptor":=Pi
 have hcB:(Qz C::bm).contains (.type (".".intercalate ("object.__class__".cutAt '.').dropLast))=true:=by
  rw [PySem.F.owner_object_class,contains_cons,T.has (b:=true) (by decide +kernel)];rfl
 refine JA PySem.F.slot_gs_get.plain PySem.F.entry_gs_get (PySem.F.slot_gs_get.check _ _ _ _ _ _ _ _ hT5 (PySem.F.args_gs_get _ _ _) ?_)
 repeat (any_goals (first | assumption | (with_reducible refine QQ hx ?_;rw [hc]) | (with_reducible refine GU hC ?_;rw [hcB]) | wp_step))
 refine ⟨Ti _ (by decide +kernel),MF PySem.F.entry_object_class ?_⟩
 repeat (any_goals (first | assumption | (with_reducible refine QQ hx ?_;rw [hc]) | wp_step))
theorem Zmt {tk:Tok}{Q:Nd->Qg->Prop}(T:VT bm)(hC:Zcd h nm q C N bs bm sn sub ab col dd k0 k1 k2 k3 k5)(LC:Jg (QA prog w) h (GF (.ref C) "__class__") (some (.builtin "object.__class__")))
 (hx:h.get? a=some o) (hc:o.cls=.ref C) (hq:Q (.done (.ret (.ref C))) ⟨h,g,d,t,os⟩) :
 Qr (QA prog w) A (Tb.«object.__getattribute__» ⟨[.ref a,.str "__class__" tk],[]⟩) Q E ⟨h,g,d,t,os⟩:=by
 have LC':∀ {A:QK} {Q:Option Qe->Qg->Prop} {E:Qe->Qg->Prop},Q (some (.builtin "object.__class__")) ⟨h,g,d,t,os⟩->Qr (QA prog w) A (GF (.ref C) "__class__") Q E ⟨h,g,d,t,os⟩:=fun q=>LC _ _ _ _ (fun _ _ e=>e) q
 have hT5:(⟨h,g,d,t,os⟩:Qg).TypeIs (.builtin "object.__class__") "getset_descriptor":=Pi
 have f5:=Pi
 have f6:=PySem.F.slot_gs_get.lookup
 have f7:=PySem.F.slot_gs_set.lookup
 repeat (any_goals (first | assumption | (with_reducible refine QQ hx ?_;rw [hc]) | (with_reducible refine LC' ?_) | wp_step))
 refine Zfn T hC hx hc ?_
 repeat (any_goals (first | assumption | wp_step))
end
structure XG (K:Qb)(C:Addr):Prop where
 xc:Zez K C=true
 nw:Gx K (.ref C) "what"=some none
 ga:Gx K (.ref C) "__getattribute__"=some (some (.builtin "BaseException.__getattribute__"))
 gh:Gx K (.ref C) "__getattr__"=some none
 gc:Gx K (.ref C) "__class__"=some (some (.builtin "object.__class__"))
theorem Zfb {K:Qb}{C ea:Addr}(G:XG K C):PySem.W.KitX K (.ref ea) (.ref C) (fun h=>∃ o,h.get? ea=some o/\o.cls=.ref C) where
 ty:=fun M h _ p=>by obtain ⟨o,h1,h2⟩:=p;exact h2 ▸ (Mr h1).andThen .now
 it:=fun M h X p=>by
  obtain ⟨nm,qn,N,bs,bm,sn,sub,ab,col,dd,k0,k1,k2,k3,k5,hC,T⟩:=ZaV X G.xc
  intro A' Q' E' s' k q
  unfold isType loadHead
  exact Qd (wpAny_loadPart (k _ _ hC) (Qk q))
 ne:=fun h tp dd its n sl X htp=>by
  obtain ⟨nm,qn,N,bs,bm,sn,sub,ab,col,dd,k0,k1,k2,k3,k5,hC,T⟩:=ZaV X G.xc
  refine Bool.eq_false_iff.mpr fun q=>?_
  have e:C=tp:=Value.ref.inj (beq_iff_eq.mp q)
  subst e
  have z:=congrArg Obj.cls (QZ (hC.symm.trans htp))
  exact absurd (Value.type.inj z) (by decide)
 ca:=fun {prog w A E Q s} X p k=>by
  obtain ⟨nm,qn,N,bs,bm,sn,sub,ab,col,dd,k0,k1,k2,k3,k5,hC,T⟩:=ZaV X G.xc
  obtain ⟨o,h1,h2⟩:=p
  obtain ⟨h,g,d,t,os⟩:=s
  have by':∀ {tk:Tok} {Q:Qe->Qg->Prop} {E:Qe->Qg->Prop} {A:QK},Q (.ref C) ⟨h,g,d,t+1,os⟩->Qr (QA prog w) A (getAttrBy (.ref ea) (.str "__class__" tk) false) Q E ⟨h,g,d,t+1,os⟩:=fun q =>
   x_by T hC (Gr X G.ga) (Gr X G.gh) h1 h2 rfl (fun A R E r=>Zmt T hC (Gr X G.gc) h1 h2 r) q
  unfold getAttr? getAttrBy?
  repeat (any_goals (first | assumption | with_reducible apply by' | wp_step))
end L2
namespace L2
open PySem PySem.Spec PyProof.Rows
def ZpQ (K:Qb)(ta:TE):TE:=fun σ H Q=>ta σ H fun x H1=>∃ (ea C dx:Addr) (fs:List (Str×V)) (v:V),x=.ref ea/\H1 ea=some (XO ea C dx)/\H1 dx=some (.xd fs)/\XG K C/\fs.lookup ("what":Str)=some v/\Q v H1
def TyX (K:Qb)(H:Hp)(x:V)(t:Qe):Prop:=Ue K H x t\/∃ ea C dx,x=.ref ea/\t=.ref C/\H ea=some (XO ea C dx)/\XG K C
def rIsi (K:Qb):List V->Hp->VK->Prop:=fun xs H Q=>∃ x c t b,xs=[x,c]/\TyX K H x t/\((∃ D,c=.ref D/\Gy K t (.ref D)=some b)\/(∃ T,c=.ty T/\Gy K t (.type T)=some b))/\Q (.bl b) H
def Zpa (K:Qb):List V->Hp->VK->Prop:=fun xs H Q=>∃(ea C dx tp:Addr)(Ds:List Addr)(b:Bool),xs=[.ref ea,.ref tp]/\H ea=some (XO ea C dx)/\XG K C/\H tp=some (.tup (Ds.map V.ref))/\OS K (.ref C) (Ds.map Qz)=some b/\Q (.bl b) H
section
variable {X:Cx}{e:Expr}{pos:Pos}{ta:TE}
theorem Zmv (he:PE X e ta)(hb:PV e "what" X.env (eval e X.env)=eval e X.env):PE X (.Attribute e "what" pos) (ZpQ X.K ta):=by
 intro pins s σ H Q I h
 refine ZmG hb (Zt (he pins s σ H _ I h) fun u s1 ⟨x,H1,I1,rx,ea,C,dx,fs,v,ex,hea,hdx,G,l,q⟩=>?_)
 subst ex
 obtain rfl:u=Qz ea:=rx
 obtain ⟨⟨oe,vs,he1,he2,he3,he4⟩,_,_⟩:=(show ObjOk X.prog X.w H1 s1.heap ea (XO ea C dx) from I1.hok ea _ hea)
 obtain ⟨mA,hns,hr⟩:=(show ObjOk X.prog X.w H1 s1.heap dx (.xd fs) from I1.hok dx _ hdx)
 obtain ⟨u,hu,ru⟩:=RelO.some_of (v:=v) (o:=mA "what") (by rw [<- l];exact hr "what")
 obtain ⟨nm,qn,N,bs,bm,sn,sub,ab,col,dd,k0,k1,k2,k3,k5,hC,T⟩:=ZaV I1.kIn G.xc
 have hK:=I1.kIn
 have I2:=I1.tok (s1.toks+1)
 obtain ⟨hh,g,d,tk,os⟩:=s1
 refine Qd (wpAny_mkText ?_)
 exact x_by T hC (Gr hK G.ga) (Gr hK G.gh) he1 he2 (PySem.W.handedOut_of (Zjm ru)) (fun A R E r=>ZnQ hC (Gr hK G.nw) he1 he2 he3 he4 hns hu r) ⟨v,H1,I2,ru,q⟩
theorem ZfN {pins:List (Addr×Obj)}{σ:St}{H:Hp}{s:Qg}{A:QK}{E:Qe->Qg->Prop}{Q:Qe->Qg->Prop}{c:Qe}{b:Bool}{x:V}{u t:Qe}(I:Inv X pins σ H s)(rx:RelV x u)(ty:TyX X.K H x t)(e:Gy X.K t c=some b)(h:∀ tk,Q (.bool b) { s with toks:=tk }) :
 Qr (QA X.prog X.w) A (call (.builtin "isinstance") [u,c]) Q E s:=by
 rcases ty with ty | ⟨ea,C,dx,rfl,rfl,hea,G⟩
 ·exact Zik I rx ty e h
 ·cases (show u=Qz ea from rx)
  obtain ⟨⟨oe,vs,he1,he2,_⟩,_,_⟩:=(show ObjOk X.prog X.w H s.heap ea (XO ea C dx) from I.hok ea _ hea)
  exact Gm (Zfb G) I.kIn ⟨oe,he1,he2⟩ e (fun z=>nomatch z) h
theorem Zdr:Xe X (.builtin "isinstance") (rIsi X.K):=by
 intro pins s σ H xs us Q I r h
 obtain ⟨x,c,t,b,rfl,ty,hc,q⟩:=h
 obtain ⟨u,u',rfl,ru,ru'⟩:=VZ r
 rcases hc with ⟨D,rfl,e⟩ | ⟨T,rfl,e⟩
 ·cases (show u'=Qz D from ru')
  exact ZfN I ru ty e fun tk=>⟨.bl b,H,I.tok tk,rfl,q⟩
 ·cases (show u'=Td T from ru')
  exact ZfN I ru ty e fun tk=>⟨.bl b,H,I.tok tk,rfl,q⟩
theorem ZbX:∀{Ds:List Addr}{us:List Qe},Vals (Ds.map V.ref) us->us=Ds.map Qz
 | [],_,h=>by cases h;rfl
 | D::Ds,_,h=>by
  cases h with
  | cons r t=>rw [ZbX t,show _=Qz D from r];rfl
theorem Zij:Xe X (.builtin "isinstance") (Zpa X.K):=by
 intro pins s σ H xs us Q I r h
 obtain ⟨ea,C,dx,tp,Ds,b,rfl,hea,G,htp,e,q⟩:=h
 obtain ⟨u,u',rfl,ru,ru'⟩:=VZ r
 cases (show u=Qz ea from ru)
 cases (show u'=Qz tp from ru')
 obtain ⟨⟨oe,vs,he1,he2,_⟩,_,_⟩:=(show ObjOk X.prog X.w H s.heap ea (XO ea C dx) from I.hok ea _ hea)
 obtain ⟨_,its,rv,p⟩:=(show ObjOk X.prog X.w H s.heap tp (.tup (Ds.map V.ref)) from I.hok tp _ htp)
 obtain ⟨⟨oc,odi,oda,osl⟩,h1,h2,n,h3⟩:=p
 dsimp only at h2 h3
 subst h2 h3
 rw [ZbX rv] at h1
 exact MH (Zfb G) I.kIn ⟨oe,he1,he2⟩ h1 e (fun z=>nomatch z) fun tk=>⟨.bl b,H,I.tok tk,rfl,q⟩
end
section
variable {X:Cx}
end
section
variable {X:Cx}{elt iter tg cnd:Expr}{xa xb:Str}{pos:Pos}{scope:Scope}{wi:TI}{te:TE}{tc:TT}{g:TG}
end
section
variable {X:Cx}
end
section
variable {prog:Qm}{w:QC}{A:QK}{E:Qe->Qg->Prop}{s:Qg}
end
section
variable {X:Cx}
end
mutual
def Pg.dat:Pg->Ji
 | .set x v s=>.tuple [.str "set",.str x,VW v,.str s]
 | .look x=>.tuple [.str "look",.str x]
 | .slot w s=>.tuple [.str w,.str s]
 | .pass=>.tuple [.str "pass"]
 | .blk w ps=>.tuple [.str w,.tuple (Pg.dats ps)]
 | .inn s ps=>.tuple [.str "in",.str s,.tuple (Pg.dats ps)]
def Pg.dats:List Pg->List Ji
 | []=>[]
 | p::ps=>p.dat::Pg.dats ps
end
mutual
def Pg.ok:Pg->Prop
 | .set x v s=>Yg x/\IsVal v/\Yg s
 | .look x=>Yg x
 | .slot w s=>(w="back"\/w="copy")/\Yg s
 | .pass=>True
 | .blk w ps=>(w="begin"\/w="late")/\Pg.oks ps
 | .inn s ps=>Yg s/\Pg.oks ps
def Pg.oks:List Pg->Prop
 | []=>True
 | p::ps=>p.ok/\Pg.oks ps
end
mutual
def Pg.hgt:Pg->Nat
 | .blk _ ps=>Pg.hgts ps+1
 | .inn _ ps=>Pg.hgts ps+1
 | _=>0
def Pg.hgts:List Pg->Nat
 | []=>0
 | p::ps=>max p.hgt (Pg.hgts ps)
end
def Pg.isB:Pg->Bool
 | .blk _ _=>true
 | .inn _ _=>true
 | _=>false
def Pg.nam:Pg->Option Str
 | .set x _ _=>some x
 | .look x=>some x
 | _=>none
theorem Pg.oks_at:∀{ps:List Pg}{i:Nat}{p:Pg},Pg.oks ps->ps[i]?=some p->p.ok
 | [],_,_,_,h=>by simp at h
 | q::ps,0,_,o,h=>by cases h;exact o.1
 | q::ps,i+1,p,o,h=>Pg.oks_at (ps:=ps) (i:=i) o.2 h
theorem Pg.hgts_at:∀{ps:List Pg}{i:Nat}{p:Pg},ps[i]?=some p->p.hgt<=Pg.hgts ps
 | [],_,_,h=>by simp at h
 | q::ps,0,_,h=>by cases h;exact MI _ _
 | q::ps,i+1,p,h=>Qw (Pg.hgts_at (ps:=ps) (i:=i) h) (Ms _ _)
theorem Pg.manys_app:∀ ps qs:List Pg,Pg.manys (ps++qs)=Pg.manys ps+Pg.manys qs
 | [],qs=>by show Pg.manys qs=0+Pg.manys qs;omega
 | p::ps,qs=>by
  have:=Pg.manys_app ps qs
  show p.many+Pg.manys (ps++qs)=p.many+Pg.manys ps+_
  omega
theorem Pg.dats_app:∀ ps qs:List Pg,Pg.dats (ps++qs)=Pg.dats ps++Pg.dats qs
 | [],qs=>rfl
 | p::ps,qs=>by show p.dat::Pg.dats (ps++qs)=p.dat::(Pg.dats ps++Pg.dats qs);rw [Pg.dats_app ps qs]
theorem Pg.dats_map:∀ ps:List Pg,Pg.dats ps=ps.map Pg.dat
 | []=>rfl
 | p::ps=>by show p.dat::Pg.dats ps=p.dat::ps.map Pg.dat;rw [Pg.dats_map ps]
theorem Pg.oks_app:∀{ps qs:List Pg},Pg.oks ps->Pg.oks qs->Pg.oks (ps++qs)
 | [],_,_,h=>h
 | _::_,_,o,h=>⟨o.1,Pg.oks_app o.2 h⟩
theorem Pg.hgts_app:∀{ps qs:List Pg}{n:Nat},Pg.hgts ps<=n->Pg.hgts qs<=n->Pg.hgts (ps++qs)<=n
 | [],_,_,_,h=>h
 | p::ps,qs,n,a,h=>by
  have a':max p.hgt (Pg.hgts ps)<=n:=a
  have:=Pg.hgts_app (ps:=ps) (qs:=qs) (n:=n) (by omega) h
  show max p.hgt (Pg.hgts (ps++qs))<=n
  omega
theorem Pg.many_pos:∀ p:Pg,1<=p.many:=fun p=>by rw [Pg.many_eq];omega
theorem Pg.len_manys:∀ ps:List Pg,ps.length<=Pg.manys ps
 | []=>Qp _
 | p::ps=>by
  have h1:=Pg.many_pos p
  have h2:=Pg.len_manys ps
  show ps.length+1<=p.many+Pg.manys ps
  omega
theorem Pg.inner_ok {p:Pg}(h:p.ok):Pg.oks p.inner:=by cases p<;>first | exact trivial | exact h.2
theorem Pg.inner_hgt {p:Pg}{n:Nat}(h:p.hgt<=n+1):Pg.hgts p.inner<=n:=by
 cases p<;>first | exact Qp _ | exact Nat.le_of_succ_le_succ h
theorem Pg.inner_none {p:Pg}(h:p.isB=false):p.inner=[]:=by cases p<;>first | rfl | exact nomatch h
def Pg.rk:List Pg->Nat
 | []=>0
 | p::ps=>Pg.hgts (p::ps)+1
theorem Pg.rk_inner (p:Pg):Pg.rk p.inner<=p.hgt:=by
 cases p with
 | blk w ps=>cases ps<;>first | exact Qp _ | exact Qh _
 | inn s ps=>cases ps<;>first | exact Qp _ | exact Qh _
 | _=>exact Qp _
theorem Pg.rk_at {ps:List Pg}{i:Nat}{p:Pg}(h:ps[i]?=some p):Pg.rk p.inner < Pg.rk ps:=by
 have h1:=Pg.rk_inner p
 have h2:=Pg.hgts_at h
 cases ps with
 | nil=>simp at h
 | cons q ps=>show _ < Pg.hgts (q::ps)+1;omega
theorem Pg.rk_le (ps:List Pg):Pg.rk ps<=Pg.hgts ps+1:=by cases ps<;>first | exact Qp _ | exact Qh _
theorem Pg.inner_many {p:Pg}:p.many=1+Pg.manys p.inner:=Pg.many_eq p
theorem Pg.manys_take {ps:List Pg}{i:Nat}{p:Pg}(h:ps[i]?=some p):Pg.manys (ps.take (i+1))=Pg.manys (ps.take i)+p.many:=by
 rw [take_add_one,h,Pg.manys_app]
 show _+(p.many+0)=_;omega
theorem Pg.manys_le {ps:List Pg}(i:Nat):Pg.manys (ps.take i)<=Pg.manys ps:=by
 have:=Pg.manys_app (ps.take i) (ps.drop i)
 rw [take_append_drop] at this;omega
theorem DatT.tupI {K:Qb}{H:Hp}{v:V}{ds:List Ji}(h:DatT K H v (.tuple ds)):∃ a xs,v=.ref a/\SqT K H a xs/\DatTs K H xs ds:=by
 cases h with
 | tup e q=>exact ⟨_,_,rfl,e,q⟩
theorem DatTs.at' {K:Qb}{H:Hp}:∀{vs ds}{i:Nat}{v:V},DatTs K H vs ds->vs[i]?=some v->∃ d,ds[i]?=some d/\DatT K H v d
 | _,_,_,_,.nil,h=>by simp at h
 | _,_,0,_,.cons a _,h=>by cases h;exact ⟨_,rfl,a⟩
 | _,_,i+1,_,.cons _ b,h=>DatTs.at' (i:=i) b h
theorem DatTs.append {K:Qb}{H:Hp}:∀{vs ds ws es},DatTs K H vs ds->DatTs K H ws es->DatTs K H (vs++ws) (ds++es)
 | _,_,_,_,.nil,h=>h
 | _,_,_,_,.cons a b,h=>.cons a (DatTs.append b h)
theorem DatTs.pg {K:Qb}{H:Hp}{vs:List V}{ps:List Pg}{i:Nat}{v:V}(h:DatTs K H vs (Pg.dats ps))(e:vs[i]?=some v):∃ p,ps[i]?=some p/\DatT K H v p.dat:=by
 obtain ⟨d,e1,e2⟩:=DatTs.at' h e
 rw [Pg.dats_map,getElem?_map] at e1
 obtain ⟨p,e3,rfl⟩:=QD.mp e1
 exact ⟨p,e3,e2⟩
theorem DatTs.pgs {K:Qb}{H:Hp}{vs:List V}{ps:List Pg}(h:DatTs K H vs (Pg.dats ps)):vs.length=ps.length:=by
 rw [DatTs.len h,Pg.dats_map,length_map]
theorem Zkf {K:Qb}{H:Hp}{v:V}{p:Pg}(h:DatT K H v p.dat):∃ a xs,v=.ref a/\SqT K H a xs/\1<=xs.length/\xs[0]?=some (.str p.word)/\(∀ x,p.nam=some x->xs[1]?=some (.str x))/\(p.isB=true->∃ t,Xn xs (-1)=some t/\DatT K H t (.tuple (Pg.dats p.inner))):=by
 cases p with
 | set x v s =>
  obtain ⟨a,xs,rfl,e,q⟩:=DatT.tupI h
  obtain _ | ⟨q1,q2⟩:=q
  cases q1;obtain _ | ⟨q3,q4⟩:=q2;cases q3
  exact ⟨a,_,rfl,e,by simp,rfl,fun y hy=>by cases hy;rfl,fun z=>(nomatch z)⟩
 | look x =>
  obtain ⟨a,xs,rfl,e,q⟩:=DatT.tupI h
  obtain _ | ⟨q1,q2⟩:=q
  cases q1;obtain _ | ⟨q3,q4⟩:=q2;cases q3
  exact ⟨a,_,rfl,e,by simp,rfl,fun y hy=>by cases hy;rfl,fun z=>(nomatch z)⟩
 | slot w s =>
  obtain ⟨a,xs,rfl,e,q⟩:=DatT.tupI h
  obtain _ | ⟨q1,q2⟩:=q
  cases q1
  exact ⟨a,_,rfl,e,by simp,rfl,fun y hy=>(nomatch hy),fun z=>(nomatch z)⟩
 | pass =>
  obtain ⟨a,xs,rfl,e,q⟩:=DatT.tupI h
  obtain _ | ⟨q1,q2⟩:=q
  cases q1
  exact ⟨a,_,rfl,e,by simp,rfl,fun y hy=>(nomatch hy),fun z=>(nomatch z)⟩
 | blk w ps =>
  obtain ⟨a,xs,rfl,e,q⟩:=DatT.tupI h
  obtain _ | ⟨q1,q2⟩:=q
  cases q1;obtain _ | ⟨q3,q4⟩:=q2;cases q4
  exact ⟨a,_,rfl,e,by simp,rfl,fun y hy=>(nomatch hy),fun z=>⟨_,Wz (n:=1) rfl rfl,q3⟩⟩
 | inn s ps =>
  obtain ⟨a,xs,rfl,e,q⟩:=DatT.tupI h
  obtain _ | ⟨q1,q2⟩:=q
  cases q1;obtain _ | ⟨q3,q4⟩:=q2;obtain _ | ⟨q5,q6⟩:=q4;cases q6
  exact ⟨a,_,rfl,e,by simp,rfl,fun y hy=>(nomatch hy),fun z=>⟨_,Wz (n:=2) rfl rfl,q5⟩⟩
theorem ZiO (v:V):(VW v).depth=0:=by cases v<;>rfl
mutual
theorem Pg.deep:∀(p:Pg),p.dat.depth<=2 * p.hgt+1
 | .set x v s=>by
  show (TR [.str "set",.str x,VW v,.str s]).depth<=1
  simp only [PF,GD,ZiO];omega
 | .look x=>by show (TR [.str "look",.str x]).depth<=1;simp only [PF,GD];omega
 | .slot w s=>by show (TR [.str w,.str s]).depth<=1;simp only [PF,GD];omega
 | .pass=>by decide
 | .blk w ps=>by
  have:=Pg.deeps ps
  show (TR [.str w,.tuple (Pg.dats ps)]).depth<=2 * (Pg.hgts ps+1)+1
  simp only [PF,GD];omega
 | .inn s ps=>by
  have:=Pg.deeps ps
  show (TR [.str "in",.str s,.tuple (Pg.dats ps)]).depth<=2 * (Pg.hgts ps+1)+1
  simp only [PF,GD];omega
theorem Pg.deeps:∀(ps:List Pg),GD (Pg.dats ps)<=2 * Pg.hgts ps+1
 | []=>by show 0<=_;omega
 | p::ps=>by
  have h1:=Pg.deep p
  have h2:=Pg.deeps ps
  show max p.dat.depth (GD (Pg.dats ps))<=2 * max p.hgt (Pg.hgts ps)+1
  omega
end
end L2
namespace K69
open PySem L2
def top (i:Nat):Stmt:=Sr.main.body.getD i (.Pass ⟨0,0,0,0⟩)
abbrev c_RoadError___init__:Stmt:=Zmb (top 1) 0
abbrev s_is_name:Stmt:=top 10
abbrev s_is_number:Stmt:=top 11
abbrev s_is_value:Stmt:=top 12
abbrev s_kinds_of:Stmt:=top 15
abbrev s_has_within:Stmt:=top 16
abbrev s_program_within:Stmt:=top 17
abbrev s_value_text:Stmt:=top 21
abbrev s_value_from:Stmt:=top 22
abbrev s_unslashed:Stmt:=top 23
abbrev s_number_from:Stmt:=top 24
abbrev s_parts_from:Stmt:=top 25
abbrev s_whole_words:Stmt:=top 26
abbrev s_part_from:Stmt:=top 27
abbrev s_kinds_in_row:Stmt:=top 28
abbrev s_step_row:Stmt:=top 29
abbrev s_head_from:Stmt:=top 30
abbrev s_program_text:Stmt:=top 33
abbrev s_program_rows:Stmt:=top 34
abbrev s_moved_in:Stmt:=top 35
abbrev s_program_from:Stmt:=top 36
abbrev s_heads_from:Stmt:=top 37
abbrev s_program_of:Stmt:=top 38
abbrev s_l_cell_at:Stmt:=top 40
abbrev s_l_box:Stmt:=top 41
abbrev s_l_take:Stmt:=top 42
abbrev s_l_names:Stmt:=top 43
abbrev s_l_value:Stmt:=top 44
abbrev s_l_called:Stmt:=top 45
abbrev s_l_worth:Stmt:=top 46
abbrev s_l_program:Stmt:=top 47
abbrev s_l_written:Stmt:=top 49
abbrev s_l_rows:Stmt:=top 50
abbrev s_l_same:Stmt:=top 51
abbrev s_l_cut:Stmt:=top 52
abbrev s_l_is_name:Stmt:=top 53
abbrev s_l_number_at:Stmt:=top 54
abbrev s_l_value_at:Stmt:=top 55
abbrev s_l_step:Stmt:=top 56
abbrev s_l_read:Stmt:=top 57
abbrev s_l_built:Stmt:=top 58
abbrev s_l_refused:Stmt:=top 59
abbrev s_l_sign_bent:Stmt:=top 60
abbrev s_l_row_bent:Stmt:=top 61
abbrev s_l_rows_bent:Stmt:=top 62
abbrev s_l_opened:Stmt:=top 63
abbrev s_l_bent:Stmt:=top 64
abbrev s_l_right:Stmt:=top 65
abbrev s_law:Stmt:=top 66
section
variable {P:Qm}{w:QC}{K:Qb}{mg:Str->Option Qe}{base:Heap}
theorem scC:ZB ["_law_script","_law_k"] ["_law_script","_law_k"] (Zl s_l_cell_at):=⟨rfl,rfl,rfl,by decide +kernel,rfl,by decide +kernel,by decide +kernel⟩
theorem Zmy {f:Addr}{fd:Qq}(F:Fun K "_law_cell_at" "_law_cell_at" s_l_cell_at f fd)(T:Ya mg):FnOk P w K mg base Yc 1 f fd ["_law_script","_law_k"] (ZhP K):=by
 refine F.ok scC (fun vs H Q E h=>?_) (fun cdv A outer s H vs Q E hr h=>?_)
 ·obtain ⟨a,ns,k,rfl,_⟩:=h;rfl
 obtain ⟨a,ns,k,rfl,hS,h0,q⟩:=h
 refine ⟨_,Zf (ZT (ZA UF (pv 1) (Zm ZP rfl T.len Qu (YC (pv 0) Za)) (ZC _)) (Zh (Zo (ZG ZR (pv 0) (pv 1) (fun _ _=>rfl)))) ZI)
  (Zh (Zo Zc)),?_⟩
 refine ⟨_,rfl,_,rfl,a,_,rfl,.inl hS,_,_,rfl,rfl,_,rfl,?_⟩
 refine Vj (fun c=>?_) (fun c=>?_)
 ·have c':k < (((ns.map V.int).length:Nat):Int):=of_decide_eq_true c
  rw [length_map] at c'
  have hk:k.toNat < ns.length:=by omega
  have ek:k=((k.toNat:Nat):Int):=by omega
  have hat:Xn (ns.map V.int) k=some (.int ns[k.toNat]):=by
   have z:Xn (ns.map V.int) ((k.toNat:Nat):Int)=some (.int ns[k.toNat]):=ZF (by rw [getElem?_map,getElem?_eq_getElem hk];rfl)
   rwa [<- ek] at z
  exact ⟨_,rfl,_,rfl,a,_,_,_,rfl,rfl,hS,hat,q _⟩
 ·exact q 0
theorem scB:ZB ["_law_script","_law_k","_law_cell"] ["_law_script","_law_k"] (Zl s_l_box):=⟨rfl,rfl,rfl,by decide +kernel,rfl,by decide +kernel,by decide +kernel⟩
theorem ZoX {f:Addr}{fd:Qq}(F:Fun K "_law_box" "_law_box" s_l_box f fd)(T:Ya mg)(D:Def P w K mg base 1 "_law_cell_at" ["_law_script","_law_k"] (ZhP K)):FnOk P w K mg base Yc 2 f fd ["_law_script","_law_k"] (Zlu K):=by
 refine F.ok scB (fun vs H Q E h=>?_) (fun cdv A outer s H vs Q E hr h=>?_)
 ·obtain ⟨a,ns,k,rfl,_⟩:=h;rfl
 obtain ⟨a,ns,k,rfl,hS,h0,h1,q⟩:=h
 refine ⟨_,Zf (Zr (i:=2) scB.nd rfl (Qy rfl) (Zu D hr (YC (pv 0) (YC (pv 1) Za))))
  (Zh (Zo (ZH (YC (Zj UO (Zm ZeI rfl T.abs (by decide +kernel) (YC (pv 2) Za)) (Yw ZaK rfl T.int (by decide +kernel) (YC (Xv ZpU (Zm ZeI rfl T.abs (by decide +kernel) (YC (pv 2) Za)) (Zj Zcf Zc Zc) (ZC _)) Za)))
   (YC (Zj ZO (Zj ZO (Zj WE (pv 2) Zc) (Zj UO Zc (pv 1))) Zc) (YC Zc Za)))))),?_⟩
 refine ⟨_,rfl,_,rfl,a,ns,k,rfl,hS,h0,fun r=>?_⟩
 refine ⟨_,rfl,_,rfl,⟨_,rfl,_,rfl,_,_,rfl,rfl,⟨by decide,by decide,by decide⟩,_,_,rfl,rfl,.inr ⟨_,rfl,?_⟩⟩⟩
 generalize hb:decide ((10:Int) ^ (Int.toNat 18)<=(if r < 0 then -r else r))=bb
 refine ⟨_,_,rfl,rfl,.inr (by cases bb<;>exact ⟨by decide,by decide⟩),_,rfl,_,_,rfl,rfl,(by show (0:Int) < _;decide),_,rfl,_,_,rfl,rfl,.inl ⟨by decide,by decide⟩,_,_,rfl,rfl,_,_,rfl,rfl,(by show 3<=Qi;decide),fun p hp=>?_⟩
 refine q p _ hp ⟨_,_,0,Ze,?_,by decide,by decide⟩ (Zg hp _)
 cases bb
 ·simp
 ·simp only [if_true,Int.mul_one];split<;>omega
theorem scT:ZB ["_law_box_here","_law_many","_law_found","_law_once","_law_twice"] ["_law_box_here","_law_many"] (Zl s_l_take):=⟨rfl,rfl,rfl,by decide +kernel,rfl,by decide +kernel,by decide +kernel⟩
theorem Zmg {f:Addr}{fd:Qq}(F:Fun K "_law_take" "_law_take" s_l_take f fd):FnOk P w K mg base Yc 1 f fd ["_law_box_here","_law_many"] (ZbU 4611686018427387904):=by
 refine F.ok scT (fun vs H Q E h=>?_) (fun cdv A outer s H vs Q E hr h=>?_)
 · obtain ⟨p,n,m,rfl,_⟩:=h;rfl
 obtain ⟨p,n,m,rfl,⟨a,b,c,hp,ha,hc,hcn⟩,hn,hm0,hmM,q⟩:=h
 refine ⟨_,Zf (ZT (ZA UG (ZG ZR (pv 0) Zc (fun _ _=>rfl)) Zc (ZC _))
     (Zf (Zr (i:=2) scT.nd rfl (Qy rfl) (Zj WE (ZG ZR (pv 0) Zc (fun _ _=>rfl)) (pv 1)))
       (Zf (Uk (Zj ZbG (ZG ZR (pv 0) Zc (fun _ _=>rfl)) (pv 1)) (ZiJ (pv 0) Zc ZeV)) (Zh (Zo (pv 2))))) ZI)
   (Zf (Uk (Zj ZO (ZG ZR (pv 0) Zc (fun _ _=>rfl)) Zc) (ZiJ (pv 0) Zc ZeV))
   (Zf (Zr (i:=3) scT.nd rfl (Qy rfl) (Zj WE (Zj UO (Zj ZO (ZG ZR (pv 0) Zc (fun _ _=>rfl)) (Zj UO Zc (ZG ZR (pv 0) Zc (fun _ _=>rfl)))) (Zj ZO Zc (ZG ZR (pv 0) Zc (fun _ _=>rfl)))) Zc))
   (Zf (Zr (i:=4) scT.nd rfl (Qy rfl) (Zj WE (Zj UO (Zj ZO (pv 3) (ZG ZR (pv 0) Zc (fun _ _=>rfl))) (Zj ZO (Zj WE (pv 3) Zc) Zc)) Zc))
   (Zh (Zo (Zj WE (Zj ZcV (Zj WE (Zj ZO (Zj UO (pv 4) Zc) (pv 3)) Zc) Zc) (pv 1))))))),?_⟩
 refine ⟨_,rfl,p,_,_,_,rfl,rfl,SqL.of hp,rfl,_,_,rfl,rfl,_,rfl,?_⟩
 refine Vj (fun c'=>?_) (fun c'=>?_)
 · have h0:0 < a:=of_decide_eq_true c'
   refine ⟨_,rfl,p,_,_,_,rfl,rfl,SqL.of hp,rfl,_,rfl,_,_,rfl,rfl,hm0,?_⟩
   refine ⟨_,rfl,p,_,_,_,rfl,rfl,SqL.of hp,rfl,_,rfl,_,_,rfl,rfl,⟨hm0,by have h4:m < 4611686018427387904:=hmM;omega⟩,?_⟩
   refine ⟨_,rfl,p,_,_,_,rfl,rfl,hp,rfl,?_⟩
   refine ⟨_,rfl,?_⟩
   exact q _ _ (Jt _ (by omega)) (Jk _ hm0) ⟨a / m,b,c,Ze,Int.ediv_nonneg ha (by omega),hc,by omega⟩ (Kp.upd _ _ _)
 · refine ⟨_,rfl,p,_,_,_,rfl,rfl,SqL.of hp,rfl,_,_,rfl,rfl,?_⟩
   refine ⟨_,rfl,p,_,_,_,rfl,rfl,hp,rfl,?_⟩
   have hp1:upd H p (.lst [.int a,.int b,.int (c+1)]) p=some (.lst [.int a,.int b,.int (c+1)]):=Ze
   refine ⟨_,rfl,p,_,_,_,rfl,rfl,SqL.of hp1,rfl,_,rfl,p,_,_,_,rfl,rfl,SqL.of hp1,rfl,_,_,rfl,rfl,.inl ⟨by decide,by decide⟩,_,_,rfl,rfl,_,rfl,p,_,_,_,rfl,rfl,SqL.of hp1,rfl,_,_,rfl,rfl,_,_,rfl,rfl,.inr ⟨by omega,by omega⟩,_,_,rfl,rfl,(by show (0:Int) < _;decide),?_⟩
   generalize hO:((b+48271 * (c+1)) * (39373+(c+1))) % 2147483647=once
   have hO0:0<=once:=by rw [<- hO];exact Jt _ (by decide)
   refine ⟨_,rfl,_,rfl,p,_,_,_,rfl,rfl,SqL.of hp1,rfl,_,_,rfl,rfl,_,rfl,_,_,rfl,rfl,(by show (0:Int) < _;decide),_,_,rfl,rfl,_,_,rfl,rfl,.inr ?_,_,_,rfl,rfl,(by show (0:Int) < _;decide),?_⟩
   · have:=Jt once (show (40009:Int)≠0 by decide)
     have:=Jk once (show (0:Int) < 40009 by decide)
     exact ⟨by omega,by omega⟩
   generalize hW:((once+(c+1)) * (once % 40009+7)) % 2147483629=twice
   refine ⟨_,rfl,_,_,rfl,rfl,.inr ⟨by decide,by decide⟩,_,rfl,_,_,rfl,rfl,_,_,rfl,rfl,(by show (0:Int) < _;decide),_,_,rfl,rfl,⟨by decide,by decide⟩,_,rfl,_,_,rfl,rfl,hm0,?_⟩
   exact q _ _ (Jt _ (by omega)) (Jk _ hm0) ⟨a,b,c+1,hp1,ha,by omega,by omega⟩ (Kp.upd _ _ _)
end
end K69
namespace L2
open PySem
theorem Zay {M:Rx}{Γ:Ctx}{p:Pos}{t:Sem Fin}{fs:List Frame}{s s':Qg}{e:End}(h:Runs M Γ p t fs s e s'):s.toks<=s'.toks:=by
 induction h<;>first
  | exact Qh _
  | assumption
  | (rename_i ih;exact Qw (JV _) ih)
  | (rename_i ih1 ih2;exact Qw ih1 ih2)
  | (simp only [Shared.setGen] at *;omega)
theorem Zho {M:Rx}{Γ:Ctx}{p:Pos}{g:Nat}{r:Resume}{s s':Qg}{res:GenResult}(h:Wakes M Γ p g r s res s'):s.toks<=s'.toks:=by
 unfold Wakes at h
 split at h
 ·exact h.elim
 ·split at h
  ·obtain ⟨e1,s1,h1,_,_,rfl⟩:=h;have:=Zay h1;exact this
  ·rw [h.2];exact Qh _
  ·rw [h.2];exact Qh _
 ·obtain ⟨e1,s1,h1,_,_,rfl⟩:=h;have:=Zay h1;exact this
 ·rw [h.2];exact Qh _
 ·rw [h.2];exact Qh _
theorem Zmz {α:Type}{M:Rx}{Γ:Ctx}(n:Nat):∀(t:Sem α){Q:α->Pos->Qg->Prop}{E:Qe->Pos->Qg->Prop}{p:Pos}{s:Qg},n<=s.toks->Rt M Γ t Q E p s->Rt M Γ t (fun a p' s'=>n<=s'.toks/\Q a p' s') (fun a p' s'=>n<=s'.toks/\E a p' s') p s:=by
 intro t
 induction t with
 | pure a=>intro Q E p s h w;rw [Rt] at w ⊢;exact ⟨h,w⟩
 | raise a=>intro Q E p s h w;rw [Rt] at w ⊢;exact ⟨h,w⟩
 | call c hd g l k ih =>
  intro Q E p s h w
  rw [Rt] at w ⊢
  obtain ⟨r,s1,h1,h2⟩:=w
  exact ⟨r,s1,h1,ih r (Qw h (Zay h1)) h2⟩
 | resume g r l k ih =>
  intro Q E p s h w
  rw [Rt] at w ⊢
  obtain ⟨res,s1,h1,h2⟩:=w
  exact ⟨res,s1,h1,ih res (Qw h (Zho h1)) h2⟩
 | fresh k ih=>intro Q E p s h w;rw [Rt] at w ⊢;exact ih _ (Nat.le_succ_of_le h) w
 | load a b k ih=>intro Q E p s h w;rw [Rt] at w ⊢;obtain ⟨o,h1,h2⟩:=w;exact ⟨o,h1,ih _ h h2⟩
 | update a b f k ih=>intro Q E p s h w;rw [Rt] at w ⊢;exact ⟨w.1,ih _ h w.2⟩
 | choose a b k ih=>intro Q E p s h w;rw [Rt] at w ⊢;exact ⟨w.1,ih _ h w.2⟩
 | genState g k ih=>intro Q E p s h w;rw [Rt] at w ⊢;obtain ⟨o,h1,h2⟩:=w;exact ⟨o,h1,ih _ h h2⟩
 | _=>intro Q E p s h w;rw [Rt] at w ⊢;first | exact w.elim | (rename_i ih;exact ih _ h w)
theorem UX {α:Type}{M:Rx}{A:QK}{t:Sem α}{Q:α->Qg->Prop}{E:Qe->Qg->Prop}{s:Qg}{n:Nat}(h:n<=s.toks)(w:Qr M A t Q E s):Qr M A t (fun a s'=>n<=s'.toks/\Q a s') (fun a s'=>n<=s'.toks/\E a s') s :=
 fun Γ p hΓ=>Zmz n t h (w Γ p hΓ)
end L2
namespace L2
open PySem PySem.W PySem.Spec PyProof.Rows
def CR1 (outer:List Env)(P:Qm)(w:QC)(H:Hp)(s:Qg)(Q:VK)(r:Oh)(s':Qg):Prop:=1<=s'.toks/\CR Yc outer P w H s Q (fun _ _ _=>False) r s'
def Fn1 (P:Qm)(w:QC)(K:Qb)(mg:Str->Option Qe)(base:Heap)(k:Nat)(f:Addr)(fd:Qq)(px:Str)(sp:Sp):Prop :=
 ∀ (A:QK) (outer:List Env) (s:Qg) (H:Hp) (args:Args) (u:Qe) (v:V) (Q:VK),Room k A->Env0 P w K mg base A outer s H->Oi s fd args [(px,u)]->RelV v u->sp [v] H Q (fun _ _ _=>False) ->
  Pf (QA P w) A (.call (.ref f) args) (CR1 outer P w H s Q) s
section
variable {P:Qm}{w:QC}{K:Qb}{mg:Str->Option Qe}{base:Heap}
theorem Fun.ok1 {x qual px:Str}{st:Stmt}{f:Addr}{fd:Qq}{k:Nat}{sp:Sp}(F:Fun K x qual st f fd)(S:ZB [px] [px] (Zl st))(hc:∀ y∈(Zl st).names,y.2≠.cell)(hce:∀ n,Nb n (Zl st).names []=[])(hl:(Zl st).names.lookup px=some .local)
 (hbody:∀ (cdv:Qe) (A:QK) (outer:List Env) (s:Qg) (H:Hp) (vs:List V) (Q:VK) (E:XK),Room k (A.deeper (Tg qual (Zl st) s.heap.objs.size f cdv))->sp vs H Q E ->
  ∃ t,PSs (Uy Yc P w K mg base [px] qual (Zl st) f cdv A outer s H E).nox (Us st) t/\t { nx:=fun _ H'=>Q .non H',rt:=Q } (start [px] vs) H):Fn1 P w K mg base (k+1) f fd px sp:=by
 obtain ⟨oc,od,kV,doc,pm,an,cdv,ct,osl,rfl,lk,hcd⟩:=F.ex
 intro A outer s H args u v Q hr e0 hb r hsp
 have KX:K.In s.heap:=e0.mod.kin.keeps fun b o e=>(e0.bs b o e).1
 have lim:s.heap.NoLimit:=e0.mod.nolimit.keeps fun b o e=>(e0.bs b o e).1
 refine OF hr.depth (KX _ _ lk) rfl S.co S.gen rfl (Nx KX hcd) (hb _ _ _ _ ?_)
 refine Po hc (fun y hy=>by rw [mem_singleton.mp hy];exact hl) (fun h₁ hns₁ hsb₁=>?_) S.kind
 have old:∀ b o,s.heap.get? b=some o->h₁.get? b=some o:=fun b o e=>hsb₁.extBut b o (Qt (Qj e)) (Qf _ e)
 refine ⟨lim.keeps old,codeAny_func ?_⟩
 have henv:newEnv (Zl st) s.heap.objs.size Qx [] (qual++".<locals>.") (some f) cdv none Rh=Tg qual (Zl st) s.heap.objs.size f cdv:=by unfold newEnv Tg;rw [hce]
 obtain ⟨t,ht,hq⟩:=hbody cdv A outer s H [v] Q (fun _ _ _=>False) (hr.deeper _) hsp
 have I:Inv (Uy Yc P w K mg base [px] qual (Zl st) f cdv A outer s H (fun _ _ _=>False)).nox [] (start [px] [v]) H { s with heap:=h₁,toks:=s.toks+1 }:=by
  have nocell:∀ (y:Str) (c:Addr),¬ (Nb (s.heap.objs.size+1) (Zl st).names []).lookup y=some c:=fun y c z=>by rw [hce] at z;cases z
  refine ⟨⟨e0.mod,S.kind,rfl,rfl,Qh _,fun y z c h1 h2=>absurd h1 (nocell y c),fun y hy=>?_,fun y c _ h=>absurd h (nocell y c),fun _=>hr.hd,OP e0.frames,.inr ⟨rfl,rfl⟩,(fun b z=>nomatch z),e0.bs,e0.bsz,(fun _ _ _ z=>nomatch z),(fun _ z=>nomatch z),e0.funs,e0.frf⟩,
   rfl,e0.bare,Un.kept old,⟨_,hns₁,fun i y z h1 h2 h3=>?_⟩,fun y c h=>absurd h (nocell y c),e0.hok.fresh (Qh _),fun y c h=>absurd h (nocell y c),(fun p hp=>nomatch hp),e0.hok.kept old,rfl⟩
  ·have hy:(Zl st).names.lookup y=some .cell\/(Zl st).names.lookup y=some .free:=hy
   rcases hy with hy | hy
   ·exact absurd rfl (hc _ (GT hy))
   ·exact absurd rfl (S.nofree _ (GT hy))
  ·cases i with
   | zero =>
    cases (show some px=some y from h1)
    cases (show some (some v)=some (some z) from h2)
    exact ⟨u,r,.inl ⟨hl,by show ([(px,u)].reverse).lookup px=some u;simp⟩⟩
   | succ i=>exact absurd h1 (by simp [Uy])
 rw [henv]
 refine QY (UX (n:=1) (by show 1<=s.toks+1;omega) (ht [] _ (start [px] [v]) H _ I hq)) (fun fl s' hs=>?_) fun e s' hs=>Gh hs.2
 obtain ⟨hk,hs⟩:=hs
 have fin:∀ {σ':St} {H':Hp} {v:V} {u:Qe},Inv (Uy Yc P w K mg base [px] qual (Zl st) f cdv A outer s H (fun _ _ _=>False)).nox [] σ' H' s'->RelV v u->Q v H'->CE outer P w H s Q u s' :=
  fun {σ' H' v u} J rv q=>⟨v,H',J.os,J.bare,J.base,J.hok,rv,q⟩
 cases fl with
 | ret u=>obtain ⟨v,σ',H',J,rv,q⟩:=hs;exact ⟨hk,fin J rv q⟩
 | next=>obtain ⟨σ',H',J,q⟩:=hs;exact ⟨hk,fin (v:=V.non) (u:=Gb) J rfl q⟩
 | brk=>obtain ⟨_,_,_,q⟩:=hs;exact Gh q
 | cont=>obtain ⟨_,_,_,q⟩:=hs;exact Gh q
end
def ZjV (P:Qm)(w:QC)(K:Qb)(mg:Str->Option Qe)(base:Heap)(k:Nat)(x:Str)(px:Str)(sp:Sp):Prop :=
 ∃ f fd,Fn1 P w K mg base k f fd px sp/\Binds K fd [px] []/\Gk K (.ref f)=true/\mg x=some (.ref f)
def PE3 (X:Cx)(e:Expr)(t:TE):Prop :=
 ∀ (pins:List (Addr×Obj)) (s:Qg) (σ:St) (H:Hp) (Q:VK),Inv X pins σ H s->1<=s.toks->t σ H Q->Qr (QA X.prog X.w) X.A (eval e X.env) (EP X pins σ Q) X.xe s
def PSs3 (X:Cx)(st:List Stmt)(t:TS):Prop :=
 ∀ (pins:List (Addr×Obj)) (s:Qg) (σ:St) (H:Hp) (D:Uz),Inv X pins σ H s->1<=s.toks->t D σ H->Qr (QA X.prog X.w) X.A (execs st X.env) (SP X pins D) X.xe s
theorem PE.three {X:Cx}{e:Expr}{t:TE}(h:PE X e t):PE3 X e t:=fun pins s σ H Q I _ q=>h pins s σ H Q I q
def NBk (K:Qb):Prop:=QE K cStatics sharingNotToldKey=some none
theorem Zne {K:Qb}{h:Heap}{a:Addr}{m:Str->Option Qe}{n:Str}(X:K.In h)(G:h.Ns a m)(e:nsIn K a n=some none):m n=none:=by
 obtain ⟨o,es,ep,ho,hd,_,hf⟩:=G
 unfold nsIn at e
 split at e
 ·rename_i c d es' n' sl q
  have:=X _ _ q
  rw [ho] at this
  cases this
  simp only at hd
  cases hd
  split at e
  ·cases e
  ·rename_i z
   rw [<- hf];unfold nsFind findBy;rw [<- Nv,z];rfl
 ·cases e
theorem none_of {K:Qb}{h:Heap}(B:NBk K)(X:K.In h)(l:h.NoLimit):NoneBooked h:=by
 obtain ⟨mc,g,_⟩:=l
 exact ⟨mc,g,Zne X g B⟩
def Zpo (to:TE)(y z:Str):TE:=fun σ H Q=>to σ H fun x H1=>∃ a,x=.str a/\a.length<=4095/\Q (.str (Ja a y z)) H1
section
variable {X:Cx}{o:Expr}{to:TE}{y z:Str}{apos cpos p1 p2:Pos}
theorem Zgh {j1 j2}(B:NBk X.K)(hz:z.length<=4095)(ho:PE3 X o to)
 (hbase:PV o "replace" X.env (eval o X.env)=eval o X.env:=by rfl)
 (hfew:((Jp cpos (QH [.Constant (.str y) j1 p1,.Constant (.str z) j2 p2] X.env)).all (fun x=>!x.1)&&(OO cpos (Sy [] X.env)).all (fun x=>x.1.isSome)
  && decide (([.Constant (.str y) j1 p1,.Constant (.str z) j2 p2]:List Expr).length+([]:List SR).length+(if ([]:List SR).isEmpty then 0 else 1) < 30))=true:=by rfl)
 (hline:(apos.endLine == cpos.line)=true:=by rfl) :
 PE3 X (.Call (.Attribute o "replace" apos) [.Constant (.str y) j1 p1,.Constant (.str z) j2 p2] [] cpos) (Zpo to y z):=by
 intro pins s σ H Q I hk h
 refine Oq hbase hfew hline rfl (Zt (QY (UX hk (ho pins s σ H _ I hk h)) (fun _ _ q=>q) fun _ _ q=>q.2) fun v s1 ⟨hk1,x,H1,I1,r1,a,ex,ha,q1⟩=>?_)
 subst ex
 obtain ⟨h1,h2⟩:=ZhR (T:="str") I1 r1 rfl
 obtain ⟨t,rfl⟩:=(show ∃ t,v=Tl a t from r1)
 refine ⟨"str","str.replace",Qo,PySem.F.slot_str_replace,PySem.F.type_str_replace,h1,h2,?_⟩
 refine Je rfl (Jy ?_)
 show Qr _ _ (ML ((false,eval (.Constant (.str y) j1 p1) X.env)::Jp cpos (QH [.Constant (.str z) j2 p2] X.env))) _ _ s1
 refine Gz (NE ?_)
 show Qr _ _ (ML ((false,eval (.Constant (.str z) j2 p2) X.env)::Jp cpos (QH [] X.env))) _ _ _
 refine Gz (NE (Jx ?_))
 have I2:Inv X pins σ H1 { s1 with toks:=s1.toks+1+1 }:=I1.tok _
 have nb:NoneBooked ({ s1 with toks:=s1.toks+1+1 }:Qg).heap:=none_of B I2.kIn I2.nolimit
 refine SC.replaceW2 4095 4095 (by decide) ?_ ?_ ?_ ha hz (fun t' k=>⟨.str (Ja a y z),H1,I2.tok k,⟨_,rfl⟩,q1⟩) nb
 ·show s1.toks≠0;omega
 ·show s1.toks+1≠0;omega
 ·show s1.toks≠s1.toks+1;omega
theorem Zhz {i:Nat}{x:Str}{e:Expr}{te:TE}{pos pos':Pos}{rest:List Stmt}{u:TS}(hN:X.N.Nodup)(hi:X.N[i]?=some x)(hx:Loc X.env.scope x)(he:PE3 X e te)(h2:PSs X rest u)(hs:Rf e (some (.Name x pos')) pos.line X.env=pure false:=by rfl)(hf:X.fn x=true\/X.env.scope.names.lookup x=some .local:=by first | exact .inl rfl | exact .inr rfl) :
 PSs3 X (.Assign [.Name x pos'] e pos::rest) (ZgZ (ZdU te (Zah i)) u):=by
 intro pins s σ H D I hk h
 refine Pw (NL (Zt (he pins s σ H _ I hk h) fun v s1 ⟨y,H1,I1,r1,q1⟩=>?_) hs)
 exact XA I1 hN hi hx r1 (fun s2 I2=>h2 pins s2 _ _ D I2 q1) hf
theorem ZlN {k:Nat}{f px:Str}{sp:Sp}{arg:Expr}{te:TE}{body rest:List Stmt}{tb u:TS}{p pos pos2:Pos}(D1:ZjV X.prog X.w X.K X.mg X.base k f px sp)(hr:Room k X.A)(ha:PE X arg te)(hb:PSs X body tb)(h3:PSs3 X rest u)
 (hg:Gl X f:=by rfl) (hdb:(f == ("__debug__":Str))=false:=by decide) (hst:QH [arg] X.env=(false,eval arg X.env)::QH [] X.env:=by rfl)
 (hit:∀ whole,isTrue (.Call (.Name f p) [arg] [] pos) X.env whole=(do let v <- whole;MM (Expr.Call (.Name f p) [arg] [] pos).pos;NI [v] (truthy v)):=by intro _;rfl) :
 PSs X (.If (.Call (.Name f p) [arg] [] pos) body [] pos2::rest) (ZgZ (Zlo (tB (ZdS sp [] E0 (Xa te Xf))) tb Zhr) u):=by
 obtain ⟨fa,fd,F,hbd,kp,hm⟩:=D1
 intro pins s σ H D I h
 have W:Qr (QA X.prog X.w) X.A (exec (.If (.Call (.Name f p) [arg] [] pos) body [] pos2) X.env) (fun fl s1=>1<=s1.toks/\SP X pins { D with nx:=u D } fl s1) X.xe s:=by
  refine wpAny_If (NJ ?_ (hit _))
  refine Gc (Vc I hg hm ?_ hdb)
  refine JX (h₀:=X.base) I.ok.mod.kin kp ?_ hst rfl
  rw [hst]
  show Qr _ _ (ML ((false,eval arg X.env)::Jp pos (QH [] X.env))) _ _ s
  refine Gz (Zt (ha pins s σ H _ I h) fun v s1 ⟨x,H1,I1,r1,q1⟩=>Jx ⟨I1.kIn,?_⟩)
  refine Rl (JW (F X.A X.stack s1 H1 ⟨[v],[]⟩ v x _ hr I1.env0 (hbd s1 [v] I1.kIn rfl) r1 q1) fun r s' hq=>?_)
  cases r with
  | error e=>exact Gh hq.2
  | ok fl =>
   cases fl with
   | next=>exact Gh hq.2
   | brk=>exact Gh hq.2
   | cont=>exact Gh hq.2
   | ret w2 =>
    obtain ⟨hk,hq⟩:=hq
    obtain ⟨v2,H2,I2,rv,d,e,q⟩:=I1.after hq
    subst e
    cases rv
    refine Gi ?_
    cases d with
    | true=>exact QY (UX hk (hb pins s' σ H2 _ I2 q)) (fun _ _ z=>z) fun _ _ z=>z.2
    | false=>exact QY (UX hk (ZI (X:=X) pins s' σ H2 _ I2 q)) (fun _ _ z=>z) fun _ _ z=>z.2
 refine Pw (Zt W fun fl s1 ⟨hk,q⟩=>?_)
 cases fl with
 | next=>obtain ⟨σ',H',I',q⟩:=q;exact h3 pins s1 σ' H' D I' hk q
 | ret v=>exact q
 | brk=>exact q
 | cont=>exact q
end
end L2
namespace L2
open PySem
def ZgP (pre post:Str)(z:Int)(x:Str):Prop:=∃ c1 c2,x=pre++(⟨#[c1]⟩:Str)++(⟨#[c2]⟩:Str)++post/\Xn a26.cps.toList (z / 26)=some c1/\Xn a26.cps.toList (z % 26)=some c2
theorem ZmX:∀ i j:_root_.Fin 26,a26.cps.toList[i.val]?=a26.cps.toList[j.val]?->i=j:=by decide +kernel
theorem ZhI {xs:List Nat}{r:Int}{c:Nat}(h0:0<=r)(h:Xn xs r=some c):xs[r.toNat]?=some c:=by
 unfold Xn ixN at h
 rw [if_pos h0] at h
 split at h
 ·exact h
 ·cases h
theorem ZhV {r r':Int}{c:Nat}(h0:0<=r)(h1:r < 26)(h2:0<=r')(h3:r' < 26)(e:Xn a26.cps.toList r=some c)(e':Xn a26.cps.toList r'=some c):r=r':=by
 have:=ZmX ⟨r.toNat,by omega⟩ ⟨r'.toNat,by omega⟩ ((ZhI h0 e).trans (ZhI h2 e').symm)
 have:=congrArg Fin.val this
 simp only at this
 omega
theorem Zme (x y:Str):(x++y).cps.toList=x.cps.toList++y.cps.toList:=by
 show (x.cps++y.cps).toList=_
 simp
theorem Zns {pre post:Str}{z z':Int}{x:Str}(h0:0<=z)(h1:z < 676)(h2:0<=z')(h3:z' < 676)(h:ZgP pre post z x)(h':ZgP pre post z' x):z=z':=by
 obtain ⟨c1,c2,rfl,e1,e2⟩:=h
 obtain ⟨d1,d2,e,f1,f2⟩:=h'
 have e:=congrArg (fun s:Str=>s.cps.toList) e
 simp only [Zme,append_assoc] at e
 have e:=List.append_cancel_left e
 simp at e
 obtain ⟨rfl,rfl⟩:=e
 have g1:=ZhV (by omega) (by omega) (by omega) (by omega) e1 f1
 have g2:=ZhV (by omega) (by omega) (by omega) (by omega) e2 f2
 omega
theorem ZmF {r5 stp:Int}{i j:Nat}(hs:stp=1\/stp=27\/stp=5\/stp=251)(hij:i < j)(hj:j<=100)(e:(r5+stp * (0+(i:Int))) % 676=(r5+stp * (0+(j:Int))) % 676):False:=by
 rcases hs with rfl | rfl | rfl | rfl<;>omega
theorem ZhO {pre post:Str}{r5 stp:Int}{xs:List Str}(hs:stp=1\/stp=27\/stp=5\/stp=251)(hl:xs.length<=100)(h:∀(j:Nat)(x:Str),xs[j]?=some x->ZgP pre post ((r5+stp * (0+(j:Int))) % 676) x):xs.Nodup:=by
 refine List.pairwise_iff_getElem.mpr fun i j hi hj hij e=>?_
 have a:=h i _ (getElem?_eq_getElem hi)
 have b:=h j _ (getElem?_eq_getElem hj)
 rw [e] at a
 exact ZmF hs hij (by omega) (Zns (Jt _ (by decide)) (Jk _ (by decide)) (Jt _ (by decide)) (Jk _ (by decide)) a b)
def Zes:Sp:=fun vs H Q _=>∃(p:Addr)(n:Nat)(many:Int)(Δ:Rs),vs=[.ref p,.int many]/\Sep ((p,Bx n)::Δ) H/\n<=900000/\0<=many/\many<=100 /\
 ∀ (l:Addr) (H':Hp) (xs:List Str),Sep ((l,UU (xs.map V.str))::(p,Bx (n+20))::Δ) H'->xs.length=many.toNat->(∀ x∈xs,Yg x)->xs.Nodup->Q (.ref l) H'
end L2
namespace L2
open PySem PySem.Spec PyProof.Rows
def Wk (c:Nat)(zs:List Nat)(l:List Nat):List Nat:=l.flatMap fun k=>if k=c then zs else [k]
theorem Zcv (c:Nat)(zs a b:List Nat):Wk c zs (a++b)=Wk c zs a++Wk c zs b:=List.flatMap_append
theorem Zbt (c:Nat)(zs:List Nat):∀ l:List Nat,c ∉ l->Wk c zs l=l
 | [],_=>rfl
 | k::r,h=>by
  have h1:¬ k=c:=fun e=>h (e ▸ mem_cons_self ..)
  have ih:=Zbt c zs r fun m=>h (mem_cons_of_mem _ m)
  unfold Wk at ih ⊢
  rw [flatMap_cons,if_neg h1,ih];rfl
theorem Zfd (c:Nat)(zs:List Nat):∀ parts:List Str,(∀ p∈parts,c ∉ p.cps.toList)->Wk c zs (Ge ⟨#[c]⟩ parts).cps.toList=(Ge ⟨zs.toArray⟩ parts).cps.toList
 | [],_=>rfl
 | [p],h=>Zbt c zs _ (h p (mem_singleton.mpr rfl))
 | p::q::r,h=>by
  have ih:=Zfd c zs (q::r) fun a ha=>h a (mem_cons_of_mem _ ha)
  show Wk c zs (p++⟨#[c]⟩++Ge ⟨#[c]⟩ (q::r)).cps.toList=(p++⟨zs.toArray⟩++Ge ⟨zs.toArray⟩ (q::r)).cps.toList
  simp only [Jl,GG]
  rw [Zcv,Zcv,ih,Zbt c zs _ (h p (mem_cons_self ..))]
  have:Wk c zs [c]=zs:=by simp [Wk]
  rw [this]
theorem VV (x:Str)(c:Nat)(zs:List Nat):(Ja x ⟨#[c]⟩ ⟨zs.toArray⟩).cps.toList=Wk c zs x.cps.toList:=by
 rw [StrLaws.replace_one,<- Zfd c zs _ (Tj x c),GB]
def YN (l:List Nat):List Nat:=l.flatMap fun k=>if k=39\/k=92 then [92,k] else [k]
theorem ZfF:∀ l:List Nat,Wk 39 [92,39] (Wk 92 [92,92] l)=YN l
 | []=>rfl
 | k :: r=>by
  have ih:=ZfF r
  have e:Wk 92 [92,92] (k::r)=(if k=92 then [92,92] else [k])++Wk 92 [92,92] r:=rfl
  rw [e,Zcv,ih]
  show _=(if k=39\/k=92 then [92,k] else [k])++YN r
  congr 1
  by_cases h:k=92
  ·subst h;rfl
  ·by_cases h2:k=39
   ·subst h2;rfl
   ·rw [if_neg h,if_neg (by omega)];simp [Wk,h2]
def Yk:V->Str
 | .int i=>Qa (Gn i)
 | .str x=>⟨(39::YN x.cps.toList++[39]).toArray⟩
 | _=>""
theorem ZcQ:∀ l:List Nat,(YN l).length<=2 * l.length
 | []=>by decide
 | k::r=>by
  have ih:=ZcQ r
  have e:YN (k::r)=(if k=39\/k=92 then [92,k] else [k])++YN r:=rfl
  have h2:(if k=39\/k=92 then [92,k] else [k]).length<=2:=by split<;>simp
  rw [e,length_append,length_cons]
  omega
theorem Zby (c:Nat)(z:Nat)(w:Nat):∀ l:List Nat,(Wk c [z,w] l).length<=2 * l.length
 | []=>Qh _
 | k::r=>by
  have ih:=Zby c z w r
  have e:Wk c [z,w] (k::r)=(if k=c then [z,w] else [k])++Wk c [z,w] r:=rfl
  have h2:(if k=c then [z,w] else [k]).length<=2:=by split<;>simp
  rw [e,length_append,length_cons]
  omega
section
variable {X:Cx}
end
theorem tj (s:Str)(l:List Str):QM s l=Ge s l:=by unfold QM;rw [StrLaws.glued_eq_join]
theorem Zdg:∀ zs:List Str,(Ge "" zs).cps.toList=zs.flatMap fun z=>z.cps.toList
 | []=>rfl
 | [z]=>by show z.cps.toList=_;simp
 | p::q::r=>by
  have ih:=Zdg (q::r)
  show (p++(Qa "")++Ge "" (q::r)).cps.toList=_
  simp only [Jl,GG]
  rw [ih]
  show p.cps.toList++[]++_=p.cps.toList++_
  rw [append_nil];rfl
theorem ZjR (zs:List Str):(QM "" zs).cps.toList=zs.flatMap fun z=>z.cps.toList:=by rw [tj];exact Zdg zs
def Zab (c:Nat):Str:=⟨(if c=39\/c=92 then [92,c] else [c]).toArray⟩
theorem Zds (l:List Nat):(QM "" (l.map Zab)).cps.toList=YN l:=by
 rw [ZjR,List.flatMap_map];rfl
theorem ZkI (c:Nat):PD "\\" (if (if false = true then !YL (.str ⟨#[c]⟩) [.str "'", .str "\\"] else YL (.str ⟨#[c]⟩) [.str "'", .str "\\"])=true then 1 else 0)++(⟨#[c]⟩:Str)=Zab c:=by
 have e:YL (.str ⟨#[c]⟩) [.str "'",.str "\\"]=decide (c=39\/c=92):=by
  have h1:Ul (.str "'") (.str ⟨#[c]⟩)=decide (c=39):=by
   show decide ((Qa "'")=(⟨#[c]⟩:Str))=_
   by_cases h:c=39
   ·subst h;rw [decide_eq_true rfl,decide_eq_true (by decide +kernel)]
   ·rw [decide_eq_false h,decide_eq_false fun z=>h (by have:=congrArg (fun s:Str=>s.cps.toList) z;simpa [show (Qa "'").cps.toList=[39] by decide +kernel] using this.symm)]
  have h2:Ul (.str "\\") (.str ⟨#[c]⟩)=decide (c=92):=by
   show decide ((Qa "\\")=(⟨#[c]⟩:Str))=_
   by_cases h:c=92
   ·subst h;rw [decide_eq_true rfl,decide_eq_true (by decide +kernel)]
   ·rw [decide_eq_false h,decide_eq_false fun z=>h (by have:=congrArg (fun s:Str=>s.cps.toList) z;simpa [show (Qa "\\").cps.toList=[92] by decide +kernel] using this.symm)]
  unfold YL
  rw [any_cons,any_cons,List.any_nil,h1,h2,RK]
  by_cases a:c=39<;>by_cases b:c=92<;>simp [a,b]
 rw [e,if_neg (show ¬ (false=true) by decide)]
 unfold Zab
 by_cases h:c=39\/c=92
 ·rw [decide_eq_true h,if_pos rfl,if_pos h]
  apply ZZ
  simp only [Jl,GG]
  show (Qa "\\").cps.toList++[c]=[92,c]
  rw [show (Qa "\\").cps.toList=[92] by decide +kernel];rfl
 ·rw [decide_eq_false h,if_neg (by decide),if_neg h]
  apply ZZ
  simp only [Jl,GG]
  show []++[c]=[c]
  rfl
theorem Zpe (b:Bool):MulOk "\\" (if b=true then 1 else 0):=by
 cases b
 ·exact ⟨by decide,fun h=>absurd (by decide) h,fun h=>absurd (by decide) h⟩
 ·exact ⟨by decide,(fun _ h=>absurd h (by decide)),fun _ h=>absurd h (by decide)⟩
theorem Znp (b:Bool):(PD "\\" (if b=true then 1 else 0)).length<=1:=by cases b<;>decide +kernel
theorem Zla (c:Nat):(Zab c).length<=2:=by
 show (if c=39\/c=92 then [92,c] else [c]).toArray.size<=2
 split<;>simp
theorem Zey:∀ l:List Nat,((l.map Zab).map (·.length)).sum<=2 * l.length
 | []=>by decide
 | c::r=>by
  have h1:=Zey r
  have h2:=Zla c
  rw [map_cons,map_cons,sum_cons,length_cons];omega
theorem Zle (x:Str):(Qa "'"++QM "" (x.cps.toList.map Zab))++Qa "'"=Yk (.str x):=by
 apply ZZ
 simp only [Jl,GG]
 rw [Zds,show (Qa "'").cps.toList=[39] by decide +kernel];rfl
theorem Ziz (x:Str):(Qa "'"++Ja (Ja x "\\" "\\\\") "'" "\\'") ++ Qa "'"=Yk (.str x):=by
 apply ZZ
 simp only [Jl,GG]
 have e1:(Qa "\\")=⟨#[92]⟩:=by decide +kernel
 have e2:(Qa "\\\\")=⟨([92,92]:List Nat).toArray⟩:=by decide +kernel
 have e3:(Qa "'")=⟨#[39]⟩:=by decide +kernel
 have e4:(Qa "\\'")=⟨([92,39]:List Nat).toArray⟩:=by decide +kernel
 rw [e1,e2,e3,e4,VV,VV,ZfF];rfl
theorem Zka (x:Str):(Ja x "\\" "\\\\").length<=2 * x.length:=by
 have e1:(Qa "\\")=⟨#[92]⟩:=by decide +kernel
 have e2:(Qa "\\\\")=⟨([92,92]:List Nat).toArray⟩:=by decide +kernel
 rw [e1,e2]
 have:=Zby 92 92 92 x.cps.toList
 rw [<- VV] at this
 show (Ja x _ _).cps.size<=2 * x.cps.size
 rw [<- QV,<- QV];exact this
theorem ZjO {v:V}(h:IsVal v):(Yk v).length<=100:=by
 cases v with
 | int i=>exact Qw (ZcX (IsVal.b31 h)).2 (by decide)
 | str x =>
  have:=ZcQ x.cps.toList
  have h1:x.cps.toList.length<=40:=by rw [QV];exact h.1
  show (39::YN x.cps.toList++[39]).toArray.size<=100
  simp;omega
 | _=>exact h.elim
theorem Yy (x y:Str):(x++y).length=x.length+y.length:=by
 show (x.cps++y.cps).size=_
 rw [Array.size_append];rfl
section
variable {prog:Qm}{w:QC}{A:QK}{E:Qe->Qg->Prop}{s:Qg}
theorem UH {i t:Addr}{k:Nat}{its:Array Qe}{x:Qe}{Q:Qe->Qg->Prop}(hi:s.heap.IsTupleIter i t k)(ht:s.heap.IsTuple t its)(hx:its[k]?=some x)
 (q:∀ h',h'.IsTupleIter i t (k+1)->Od i s.heap h'->Q x { s with heap:=h' }):Qr (QA prog w) A (QP (.ref i)) Q E s:=by
 obtain ⟨o,eo,oc,od⟩:=id hi
 obtain ⟨u,eu,_,n,du⟩:=ht
 unfold QP
 refine Qd (Go (name:=Qa "__next__") hi.typeIs Jm (GW Jm hi.typeIs Rb ?_ (SL _)))
 refine Qd (m:=RW (.ref i) 0) (QN eo od (x:=.ref t) rfl ?_)
 show Qr _ _ (if (Qz t == Gb)=true then _ else _) _ _ s
 rw [if_neg (by exact Qv)]
 refine Qd (m:=RW (.ref i) 1) (QN eo od (x:=.int k 0) rfl ?_)
 refine Qd (m:=seqItems? (.ref t)) (Gq eu du ?_)
 simp only [Tx,hx]
 exact Qd (TN eo od (by simp) (Qk ⟨x,rfl,Qk (q _ ⟨_,Jn _ eo (Sf (Pa od _)),(NY ..).trans oc,by rw [Pa od];simp [JN]⟩ (Nk ..))⟩))
theorem ZbT {i t:Addr}{k:Nat}{its:Array Qe}{Q:Qe->Qg->Prop}(hh:A.handled=none)(hi:s.heap.IsTupleIter i t k)(ht:s.heap.IsTuple t its)(hx:its[k]?=none)
 (q:∀ h' e,Heap.ExtBut i s.heap h'->(∃ o,h'.get? e=some o/\o.cls=.type "StopIteration")->E (.ref e) { s with heap:=h' }):Qr (QA prog w) A (QP (.ref i)) Q E s:=by
 obtain ⟨o,eo,oc,od⟩:=id hi
 obtain ⟨u,eu,_,n,du⟩:=ht
 unfold QP
 refine Qd (Go (name:=Qa "__next__") hi.typeIs Jm (GW Jm hi.typeIs Rb ?_ (SL _)))
 refine Qd (m:=RW (.ref i) 0) (QN eo od (x:=.ref t) rfl ?_)
 show Qr _ _ (if (Qz t == Gb)=true then _ else _) _ _ s
 rw [if_neg (by exact Qv)]
 refine Qd (m:=RW (.ref i) 1) (QN eo od (x:=.int k 0) rfl ?_)
 refine Qd (m:=seqItems? (.ref t)) (Gq eu du ?_)
 simp only [Tx,hx]
 refine Qd (Te (Qd (TN eo od (by simp) ?_)))
 refine Qd (m:=newExc (.type "StopIteration") []) ?_
 simp only [newExc,newTuple]
 refine Qd (Gj ?_ (by size_fits))
 refine Qd (m:=firstArgMember _ _) (wpAny_of_eq (a:=Gb) (by first | rfl | (simp only [firstArgMember];rfl)) ?_)
 refine Gj ?_ (by size_fits)
 simp only [raiseNew]
 refine Qd (wpAny_handled ?_)
 first | rw [show A.in1.handled=none from hh] | rw [hh]
 exact Qd (Qk (wpAny_throw (q _ _ (((Nk ..).extBut.push _).push _) ⟨_,Qn _ rfl,rfl⟩)))
theorem ZkM {z TI TO i1 i2 l1 l2:Addr}{k:Nat}{xs ys:Array Qe}{x y a b:Qe}{Q:Option Qe->Qg->Prop}(D:Rq z TI TO i1 i2 l1 l2)(hz:JP s.heap z TI TO .none)(hTI:GE s.heap TI (.ref i1) (.ref i2))(hTO:GE s.heap TO a b)
 (h1:s.heap.IsTupleIter i1 l1 k) (h2:s.heap.IsTupleIter i2 l2 k) (t1:s.heap.IsTuple l1 xs) (t2:s.heap.IsTuple l2 ys) (hx:xs[k]?=some x) (hy:ys[k]?=some y)
 (q:∀ h',JP h' z TI TO (JN s.heap.objs.size)->GE h' TO x y->h'.IsTupleIter i1 l1 (k+1)->h'.IsTupleIter i2 l2 (k+1)->GE h' s.heap.objs.size x y->h'.objs.size=s.heap.objs.size+1 ->
  (∀ c o,c≠z->c≠TO->c≠i1->c≠i2->s.heap.get? c=some o->h'.get? c=some o)->Q (some (.ref s.heap.objs.size)) { s with heap:=h' }):Qr (QA prog w) A (Sj (.ref z)) Q E s:=by
 have hT:s.TypeIs (.ref z) "zip":=⟨_,hz,rfl⟩
 unfold Sj
 refine Qd (Ss (Go (name:=Qa "__next__") hT GK (GW GK hT PH ?_ (Pj _))))
 refine Qd (m:=RW (.ref z) 2) (QN hz rfl (x:=.bool false) rfl ?_)
 refine Qd (m:=RW (.ref z) 3) (QN hz rfl (x:=.ref TI) rfl ?_)
 refine Qd (Gq hTI rfl ?_)
 refine Qd (m:=QJ (.ref z)) ?_
 unfold QJ
 refine Qd (QN hz rfl (x:=.none) rfl (Qk ?_))
 simp only [if_true]
 refine Qd (Te ?_)
 refine Qd (QN hz rfl (x:=.ref TO) rfl ?_)
 refine Qd (Gf hz (by simp) fun ha hza sa=>?_)
 replace hza:JP ha z TI TO .ellipsis:=hza
 refine Qd ?_
 simp only [PJ,Tc,forIn_cons,TU]
 have Ea:=sa.extBut
 refine Qd (Qd (JK ?_))
 refine Qd (m:=QP (.ref i1)) (UH (h1.extBut Ea D.i1z) (t1.extBut Ea D.l1z) hx fun hb i1b sb=>Qk ?_)
 have Eb:=sb.extBut
 have TOb:GE hb TO a b:=Eb _ _ D.TOi1 (Ea _ _ D.TOz hTO)
 refine Qd (Gq TOb rfl ?_)
 refine Qd (JE TOb fun hc TOc sc=>?_)
 replace TOc:GE hc TO x b:=TOc
 have Ec:=sc.extBut
 refine Qd (RB (Qk ?_))
 refine Qd (Qd (JK ?_))
 refine Qd (m:=QP (.ref i2)) (UH (((h2.extBut Ea D.i2z).extBut Eb D.i12.symm).extBut Ec D.TOi2.symm) (((t2.extBut Ea D.l2z).extBut Eb D.l2i1).extBut Ec D.l2TO) hy fun hd i2d sd=>Qk ?_)
 have Ed:=sd.extBut
 have TOd:GE hd TO x b:=Ed _ _ D.TOi2 TOc
 refine Qd (Gq TOd rfl ?_)
 refine Qd (JE TOd fun he TOe se=>?_)
 replace TOe:GE he TO x y:=TOe
 have Ee:=se.extBut
 refine Qd (RB (Qk (Qk ?_)))
 refine Qd (Gq TOe rfl ?_)
 refine Qd (wpAny_newTuple ?_)
 have hsz:he.objs.size=s.heap.objs.size:=by rw [se.1,sd.1,sc.1,sb.1,sa.1]
 have all:∀ c o,c≠z->c≠TO->c≠i1->c≠i2->s.heap.get? c=some o->he.get? c=some o:=fun c o c1 c2 c3 c4 e=>Ee _ _ c2 (Ed _ _ c4 (Ec _ _ c2 (Eb _ _ c3 (Ea _ _ c1 e))))
 have ze:JP he z TI TO .ellipsis:=Ee _ _ D.TOz.symm (Ed _ _ D.i2z.symm (Ec _ _ D.TOz.symm (Eb _ _ D.i1z.symm hza)))
 have i1e:he.IsTupleIter i1 l1 (k+1):=((i1b.extBut Ec D.TOi1.symm).extBut Ed D.i12).extBut Ee D.TOi1.symm
 have i2e:he.IsTupleIter i2 l2 (k+1):=i2d.extBut Ee D.TOi2.symm
 have zl:z < he.objs.size:=Qj ze
 refine Qd (m:=GH (.ref z) (.ref he.objs.size)) ?_
 unfold GH
 refine Qd (Gf (show JP (he.push { cls:=.type "tuple",data:=.seq #[x,y] }) z TI TO .ellipsis from Qf _ ze) (by simp) fun hf zf sf=>?_)
 replace zf:JP hf z TI TO (JN he.objs.size):=zf
 refine Gf zf (by simp) fun hg zg sg=>?_
 replace zg:JP hg z TI TO (JN he.objs.size):=zg
 have up:∀ c o,c≠z->he.get? c=some o->hg.get? c=some o:=fun c o c1 e=>sg.extBut _ _ c1 (sf.extBut _ _ c1 (Qf _ e))
 have new:GE hg he.objs.size x y:=sg.extBut _ _ (GY zl) (sf.extBut _ _ (GY zl) (Qn _ rfl))
 have sz:hg.objs.size=he.objs.size+1:=by rw [sg.1,sf.1,Gd]
 rw [hsz] at zg new sz
 refine Qk ⟨_,rfl,?_⟩
 show Qr _ _ (pure (some (Qz he.objs.size))) _ _ _
 rw [hsz]
 refine Qk (q hg zg (up _ _ D.TOz TOe) ?_ ?_ new sz fun c o c1 c2 c3 c4 e=>up c o c1 (all c o c1 c2 c3 c4 e))
 ·obtain ⟨o,eo,r⟩:=i1e;exact ⟨o,up _ _ D.i1z eo,r⟩
 ·obtain ⟨o,eo,r⟩:=i2e;exact ⟨o,up _ _ D.i2z eo,r⟩
theorem Zmm {z TI TO i1 i2 l1 l2:Addr}{k:Nat}{xs:Array Qe}{a b:Qe}{Q:Option Qe->Qg->Prop}(hh:A.handled=none)(D:Rq z TI TO i1 i2 l1 l2)(hz:JP s.heap z TI TO .none)(hTI:GE s.heap TI (.ref i1) (.ref i2))(hTO:GE s.heap TO a b)
 (h1:s.heap.IsTupleIter i1 l1 k) (t1:s.heap.IsTuple l1 xs) (hx:xs[k]?=none)
 (q:∀ h',(∀ c o,c≠z->c≠TO->c≠i1->c≠i2->s.heap.get? c=some o->h'.get? c=some o)->Q none { s with heap:=h' }):Qr (QA prog w) A (Sj (.ref z)) Q E s:=by
 have hT:s.TypeIs (.ref z) "zip":=⟨_,hz,rfl⟩
 unfold Sj
 refine Qd (Ss (Go (name:=Qa "__next__") hT GK (GW GK hT PH ?_ (Pj _))))
 refine Qd (m:=RW (.ref z) 2) (QN hz rfl (x:=.bool false) rfl ?_)
 refine Qd (m:=RW (.ref z) 3) (QN hz rfl (x:=.ref TI) rfl ?_)
 refine Qd (Gq hTI rfl ?_)
 refine Qd (m:=QJ (.ref z)) ?_
 unfold QJ
 refine Qd (QN hz rfl (x:=.none) rfl (Qk ?_))
 simp only [if_true]
 refine Qd (Te ?_)
 refine Qd (QN hz rfl (x:=.ref TO) rfl ?_)
 refine Qd (Gf hz (by simp) fun ha hza sa=>?_)
 replace hza:JP ha z TI TO .ellipsis:=hza
 refine Qd ?_
 simp only [PJ,Tc,forIn_cons,TU]
 refine Qd (Qd (JK ?_))
 refine Qd (m:=QP (.ref i1)) (ZbT hh (h1.extBut sa.extBut D.i1z) (t1.extBut sa.extBut D.l1z) hx fun hb e Eb he=>?_)
 obtain ⟨oe,eoe,ce⟩:=he
 have zb:JP hb z TI TO .ellipsis:=Eb _ _ D.i1z.symm hza
 have ez:e≠z:=fun x=>by subst x;rw [zb] at eoe;cases eoe;simp at ce
 refine Gf zb (by simp) fun hc _ sc=>?_
 refine Qd (RX (T:="StopIteration") (b:=true) ⟨oe,sc.extBut _ _ ez eoe,ce⟩ OT ?_)
 exact Qk (q _ fun c o c1 _ c3 _ x=>sc.extBut _ _ c1 (Eb _ _ c3 (sa.extBut _ _ c1 x)))
end
abbrev Yj (l:Addr):Obj:={ cls:=.type "tuple_iterator",data:=.fields #[.ref l,.int 0 0] }
abbrev ZcC (h:Heap)(l1 l2:Addr):Heap:=((((h.push (Yj l1)).push (Yj l2)).push { cls:=.type "tuple",data:=.seq #[.ref h.objs.size,.ref (h.push (Yj l1)).objs.size] }).push { cls:=.type "tuple",data:=.seq #[.none,.none] })
theorem ZmZ (l1 l2:Addr)(xs ys:Array Qe):Meets (Tb.«zip.__new__» ⟨[.type "zip",.ref l1,.ref l2],[]⟩) (fun _ R s=>s.heap.IsTuple l1 xs/\s.heap.IsTuple l2 ys /\
 R (.ok (.ret (.ref (ZcC s.heap l1 l2).objs.size))) { s with heap:=(ZcC s.heap l1 l2).push { cls:=.type "zip",data:=.fields #[.none,.bool false,.bool false,.ref ((s.heap.push (Yj l1)).push (Yj l2)).objs.size,.ref (((s.heap.push (Yj l1)).push (Yj l2)).push { cls:=.type "tuple",data:=.seq #[.ref s.heap.objs.size,.ref (s.heap.push (Yj l1)).objs.size] }).objs.size] } }) :=
 .of_wp fun prog w A R s h=>by
  obtain ⟨hp,g,d,tk,os⟩:=s;obtain ⟨hl1,hl2,h⟩:=h
  have hsub:=sub_zip
  have hL1:NZ (RC ⟨hp,g,d,tk,os⟩) l1 xs:=hl1
  have hL2:NZ (RC ⟨hp.push (Yj l1),g,d,tk,os⟩) l2 ys:=Heap.IsTuple.push hl2 _
  wp_walk using Tf hL1,Tf hL2
  exact ⟨_,rfl,h⟩
section
variable {prog:Qm}{w:QC}{A:QK}{E:Qe->Qg->Prop}{s:Qg}
theorem Zkv {l1 l2:Addr}{xs ys:Array Qe}{Q:Qe->Qg->Prop}(hl1:s.heap.IsTuple l1 xs)(hl2:s.heap.IsTuple l2 ys)
 (h:∀ h',JP h' (s.heap.objs.size+4) (s.heap.objs.size+2) (s.heap.objs.size+3) .none->GE h' (s.heap.objs.size+2) (.ref s.heap.objs.size) (.ref (s.heap.objs.size+1)) ->
  GE h' (s.heap.objs.size+3) .none .none->h'.IsTupleIter s.heap.objs.size l1 0->h'.IsTupleIter (s.heap.objs.size+1) l2 0->h'.objs.size=s.heap.objs.size+5 ->
  (∀ c o,s.heap.get? c=some o->h'.get? c=some o)->Q (.ref (s.heap.objs.size+4)) { s with heap:=h' }):Qr (QA prog w) A (call (.type "zip") [.ref l1,.ref l2]) Q E s:=by
 refine callType_new F.called_zip (by decide) (Mt _ _) (MJ _ _) (fun obj=>OU obj _ _) MK (ZmZ l1 l2 xs ys) ⟨hl1,hl2,?_⟩
 have z1:(s.heap.push (Yj l1)).objs.size=s.heap.objs.size+1:=Gd ..
 have z2:((s.heap.push (Yj l1)).push (Yj l2)).objs.size=s.heap.objs.size+2:=by rw [Gd,z1]
 have z3:(((s.heap.push (Yj l1)).push (Yj l2)).push { cls:=.type "tuple",data:=.seq #[.ref s.heap.objs.size,.ref (s.heap.push (Yj l1)).objs.size] }).objs.size=s.heap.objs.size+3:=by rw [Gd,z2]
 have z4:(ZcC s.heap l1 l2).objs.size=s.heap.objs.size+4:=by rw [Gd,z3]
 show _/\_
 rw [z4,z3,z2]
 have up:∀ {h:Heap} {o:Obj} {c:Addr} {u:Obj},h.get? c=some u->(h.push o).get? c=some u:=fun e=>Qf _ e
 have g5:((ZcC s.heap l1 l2).push { cls:=.type "zip",data:=.fields #[.none,.bool false,.bool false,.ref (s.heap.objs.size+2),.ref (s.heap.objs.size+3)] }).get? (ZcC s.heap l1 l2).objs.size=some _:=Qn _ rfl
 have g4:(ZcC s.heap l1 l2).get? _=some _:=Qn _ rfl
 have g3:(((s.heap.push (Yj l1)).push (Yj l2)).push { cls:=.type "tuple",data:=.seq #[.ref s.heap.objs.size,.ref (s.heap.push (Yj l1)).objs.size] }).get? _=some _:=Qn _ rfl
 have g2:((s.heap.push (Yj l1)).push (Yj l2)).get? _=some _:=Qn _ rfl
 have g1:(s.heap.push (Yj l1)).get? _=some _:=Qn _ rfl
 rw [z4] at g5
 rw [z3] at g4
 rw [z2] at g3
 rw [z1] at g2
 conv at g3=>rhs;rw [z1]
 exact ⟨⟨_,g5,rfl⟩,h _ g5 (up (up g3)) (up g4) ⟨_,up (up (up (up g1))),rfl,rfl⟩ ⟨_,up (up (up g2)),rfl,rfl⟩ (by rw [Gd,z4]) fun c o x=>up (up (up (up (up x))))⟩
end
def Zhv (K:Qb)(l1 l2:Addr):It :=
 ⟨fun i H=>∃ xs ys x y,SqT K H l1 xs/\SqT K H l2 ys/\xs[i]?=some x/\ys[i]?=some y,
  fun i H v H'=>∃ t x y,H t=none/\(∀ xs,SqT K H l1 xs->xs[i]?=some x)/\(∀ ys,SqT K H l2 ys->ys[i]?=some y)/\v=.ref t/\H'=upd H t (.tup [x,y]),
  fun i H=>∃ xs ys,SqT K H l1 xs/\SqT K H l2 ys/\xs.length<=i⟩
theorem ZhZ {P:Qm}{w:QC}{K:Qb}{elts:List Expr}{x1:Nat}{tp:Pos}{z TI TO i1 i2 l1 l2:Addr}(D:Rq z TI TO i1 i2 l1 l2)(hTl1:l1≠TI)(hTl2:l2≠TI) :
 Ub P w K (.Tuple elts x1 tp) (Zhv K l1 l2) [z,TI,TO,i1,i2] z (fun i h=>JP h z TI TO .none/\GE h TI (.ref i1) (.ref i2)/\(∃ a b,GE h TO a b)/\h.IsTupleIter i1 l1 i/\h.IsTupleIter i2 l2 i) where
 mem:=by simp
 obj:=fun i h st b hb=>by
  obtain ⟨hz,hTI,⟨a,c,hTO⟩,⟨o1,ho1,c1,d1⟩,⟨o2,ho2,c2,d2⟩⟩:=st
  simp only [mem_cons,not_mem_nil,or_false] at hb
  rcases hb with q | q | q | q | q
  ·rw [q];exact ⟨_,hz,fun v z=>by cases z⟩
  ·rw [q];exact ⟨_,hTI,fun v z=>by cases z⟩
  ·rw [q];exact ⟨_,hTO,fun v z=>by cases z⟩
  ·rw [q];exact ⟨o1,ho1,fun v z=>by rw [d1] at z;cases z⟩
  ·rw [q];exact ⟨o2,ho2,fun v z=>by rw [d2] at z;cases z⟩
 keep:=fun i h h' st k=>by
  obtain ⟨hz,hTI,⟨a,c,hTO⟩,h1,h2⟩:=st
  exact ⟨k z (by simp) _ hz,k TI (by simp) _ hTI,⟨a,c,k TO (by simp) _ hTO⟩,h1.at fun o y=>k i1 (by simp) o y,h2.at fun o y=>k i2 (by simp) o y⟩
 item:=by
  intro X hP hw hK hc i pins s σ H E I hf st hg
  subst hP hw hK
  obtain ⟨hz,hTI,⟨a,b,hTO⟩,h1,h2⟩:=st
  obtain ⟨xs,ys,x,y,hq1,hq2,hx,hy⟩:=hg
  obtain ⟨its1,rv1,p1,hz1⟩:=I.tuple hq1
  obtain ⟨its2,rv2,p2,hz2⟩:=I.tuple hq2
  obtain ⟨u1,hu1,ru1⟩:=rv1.get hx
  obtain ⟨u2,hu2,ru2⟩:=rv2.get hy
  refine ZkM D hz hTI hTO h1 h2 p1 p2 (by simpa using hu1) (by simpa using hu2) fun h' g1 g2 g3 g4 g5 g6 g7=>?_
  refine ⟨_,rfl,PM g1 fun h2' g1' hs2=>?_⟩
  have hzl:z < s.heap.objs.size:=Qj hz
  have hTIl:TI < s.heap.objs.size:=Qj hTI
  have hTOl:TO < s.heap.objs.size:=Qj hTO
  have hi1l:i1 < s.heap.objs.size:=by obtain ⟨o,ho,_⟩:=h1;exact Qj ho
  have hi2l:i2 < s.heap.objs.size:=by obtain ⟨o,ho,_⟩:=h2;exact Qj ho
  have g5':h'.get? s.heap.objs.size=some ({ cls:=.type "tuple",data:=.seq #[u1,u2] }:Obj):=g5
  generalize hO:({ cls:=.type "tuple",data:=.seq #[u1,u2] }:Obj)=O at g5'
  have I1:Inv X pins σ (upd H s.heap.objs.size (.tup [x,y])) { s with heap:=s.heap.push O,toks:=s.toks }:=by
   refine I.laid (t':=s.toks) (fun b o y=>Qf _ y) (Qh _) (show ObjOk X.prog X.w _ _ _ (.tup _) from ⟨by show 2<=Qi;decide,[u1,u2],.cons ru1 (.cons ru2 .nil),?_⟩)
   rw [<- hO];exact Px _ _
  have hfree:=I.hok.fresh (Qh s.heap.objs.size)
  have hf2:∀ b∈[z,TI,TO,i1,i2],YM X pins (upd H s.heap.objs.size (.tup [x,y])) b:=fun b hb=>by
   obtain ⟨f0,f1⟩:=hf b hb
   have hb':b≠s.heap.objs.size:=by
    simp only [mem_cons,not_mem_nil,or_false] at hb
    rcases hb with q | q | q | q | q<;>(rw [q];exact Qt (by assumption))
   exact ⟨by rw [Zn hb'];exact f0,f1⟩
  have I2:Inv X pins σ (upd H s.heap.objs.size (.tup [x,y])) { s with heap:=h2',toks:=s.toks }:=by
   refine I1.turned2 (t':=s.toks) (h':=h2') (fun b o hb y=>?_) hf2
   have n1:b≠z:=fun q=>hb (by simp [q])
   have n2:b≠TO:=fun q=>hb (by simp [q])
   have n3:b≠i1:=fun q=>hb (by simp [q])
   have n4:b≠i2:=fun q=>hb (by simp [q])
   rw [hs2.2 b n1]
   rcases JB y with ⟨q1,q2⟩ | y
   ·rw [q1,q2];exact g5'
   ·exact g7 b o n1 n2 n3 n4 y
  refine ⟨.ref s.heap.objs.size,_,I2,rfl,⟨s.heap.objs.size,x,y,hfree,fun ys hy'=>by rw [I.tuple_inj hy' hq1];exact hx,fun ys' hy'=>by rw [I.tuple_inj hy' hq2];exact hy,rfl,rfl⟩,⟨g1',?_,⟨u1,u2,?_⟩,?_,?_⟩,fun b hb=>(hf2 b hb).1⟩
  ·show h2'.get? TI=_
   rw [hs2.2 TI D.TIz];exact g7 TI _ D.TIz D.TITO D.TIi1 D.TIi2 hTI
  ·show h2'.get? TO=_
   rw [hs2.2 TO D.TOz];exact g2
  ·exact g3.at fun o y=>by rw [hs2.2 i1 D.i1z];exact y
  ·exact g4.at fun o y=>by rw [hs2.2 i2 D.i2z];exact y
 done:=by
  intro X hP hw hK hc i pins s σ H E I hf st hg
  subst hP hw hK
  obtain ⟨hz,hTI,⟨a,b,hTO⟩,h1,h2⟩:=st
  obtain ⟨xs,ys,hq1,hq2,hle⟩:=hg
  obtain ⟨its1,rv1,p1,hz1⟩:=I.tuple hq1
  obtain ⟨its2,rv2,p2,hz2⟩:=I.tuple hq2
  have l1:=rv1.length
  have l2:=rv2.length
  exact Zmm (I.ok.hd hc) D hz hTI hTO h1 p1 (Jf (by simp;omega)) fun h' eb=>⟨rfl,I.turned2 (t':=s.toks) (fp:=[z,TI,TO,i1,i2]) (fun b o hb y=>eb b o (fun q=>hb (by simp [q])) (fun q=>hb (by simp [q])) (fun q=>hb (by simp [q])) (fun q=>hb (by simp [q])) y) hf⟩
 self:=fun _ _ _ _ _ st h=>JQ st.1 h
def Zpb (K:Qb)(ta tb:TE):TI:=fun σ H R=>ta σ H fun v H1=>tb σ H1 fun u H2=>∃ a b xs ys,[v,u]=[V.ref a,V.ref b]/\SqT K H2 a xs/\SqT K H2 b ys/\R (Zhv K a b) H2
section
variable {X:Cx}
theorem ZmW {l m:Expr}{ta tb:TE}{elts:List Expr}{x1:Nat}{tp p pos:Pos}(hg:Gl X "zip")(hm:X.mg "zip"=none)(hl:PE X l ta)(hr:PE X m tb)
 (he:QH [l,m] X.env=(false,eval l X.env)::QH [m] X.env:=by rfl) (he2:QH [m] X.env=[(false,eval m X.env)]:=by rfl) (hpl:(Jp pos (QH [m] X.env)).any (·.1)=false:=by rfl):PI X (.Tuple elts x1 tp) (.Call (.Name "zip" p) [l,m] [] pos) (Zpb X.K ta tb):=by
 intro pins s σ H R I h
 have ha:PA X [l,m] (Xa ta (Xa tb Xf)):=YC hl (YC hr Za he2) he
 refine Gc (Ug I hg hm ZbM ?_)
 refine Gw (Zt (ha pos pins s σ H (fun vs H2=>∃ a b xs ys,vs=[V.ref a,V.ref b]/\SqT X.K H2 a xs/\SqT X.K H2 b ys/\R (Zhv X.K a b) H2) I h) fun us s1 ⟨vs,H1,I1,r1,a,b,xs,ys,e,ea,eb,q⟩=>?_) he hpl
 subst e
 obtain ⟨u1,u2,rfl,r2,r3⟩:∃ u1 u2,us=[u1,u2]/\RelV (V.ref a) u1/\RelV (V.ref b) u2:=by
  cases r1 with
  | cons p t=>cases t with
   | cons p2 t2=>cases t2;exact ⟨_,_,rfl,p,p2⟩
 cases r2
 cases r3
 obtain ⟨its1,rv1,⟨o1,eo1,c1,n1,d1⟩,_⟩:=I1.tuple ea
 obtain ⟨its2,rv2,⟨o2,eo2,c2,n2,d2⟩,_⟩:=I1.tuple eb
 have ha1:a < s1.heap.objs.size:=Qj eo1
 have hb1:b < s1.heap.objs.size:=Qj eo2
 refine Zkv ⟨_,eo1,c1,n1,d1⟩ ⟨_,eo2,c2,n2,d2⟩ fun h' g1 g2 g3 g4 g5 g6 g7=>JQ g1 ?_
 refine ⟨s1.heap.objs.size+4,[s1.heap.objs.size+4,s1.heap.objs.size+2,s1.heap.objs.size+3,s1.heap.objs.size,s1.heap.objs.size+1],_,_,H1,rfl,I1.kept (t':=s1.toks) g7,ZhZ (l1:=a) (l2:=b) ⟨?_,?_,?_,?_,?_,?_,?_,?_,?_,?_,?_,?_,?_,?_,?_,?_,?_,?_⟩ ?_ ?_,⟨g1,g2,⟨_,_,g3⟩,g4,g5⟩,fun c hc=>?_,q⟩
 rotate_right
 ·simp only [mem_cons,not_mem_nil,or_false] at hc
  have up:∀ k,YM X pins H1 (s1.heap.objs.size+k):=fun k=>I1.fpOk (Gp _ k) (I1.hok.fresh (Gp _ k))
  rcases hc with q | q | q | q | q
  ·rw [q];exact up 4
  ·rw [q];exact up 2
  ·rw [q];exact up 3
  ·rw [q];exact up 0
  ·rw [q];exact up 1
 all_goals
  first
   | exact Qt (by first | (apply QB (by assumption);omega) | (simp only [GP];decide) | (show _ < _+_;exact GQ (by decide)))
   | exact GY (by first | (simp only [GP];decide) | exact GQ (by decide))
end
def TyS (K:Qb)(H:Hp)(x:V)(t:Qe):Prop:=Ue K H x t\/∃ a xs,x=.ref a/\t=.type "tuple"/\SqT K H a xs
section
variable {X:Cx}{pins:List (Addr×Obj)}{σ:St}{H:Hp}{s:Qg}
theorem ZfG {x:V}{u t:Qe}(I:Inv X pins σ H s)(rx:RelV x u)(ty:TyS X.K H x t):∃ Hh:Heap->Prop,PySem.W.KitX X.K u t Hh/\Hh s.heap/\u≠.builtin "__main__.__loader__#opaque":=by
 rcases ty with ty | ⟨a,xs,rfl,rfl,h⟩
 ·cases ty with
  | non=>cases (show u=Gb from rx);exact ⟨_,NN,GN,fun z=>nomatch z⟩
  | bl y=>cases (show u=Rg y from rx);exact ⟨_,NO,GN,fun z=>nomatch z⟩
  | int i=>obtain ⟨t,q⟩:=(show ∃ t,u=Sg i t from rx);cases q;exact ⟨_,Mg,GN,fun z=>nomatch z⟩
  | str y=>obtain ⟨t,q⟩:=(show ∃ t,u=Tl y t from rx);cases q;exact ⟨_,Mh,GN,fun z=>nomatch z⟩
  | flt y=>obtain ⟨t,q⟩:=(show ∃ t,u=OK y t from rx);cases q;exact ⟨_,Nw,GN,fun z=>nomatch z⟩
  | @lst a xs ea =>
   cases (show u=Qz a from rx)
   obtain ⟨_,_,n,_,h1⟩:=(show ObjOk X.prog X.w H s.heap a (.lst xs) from I.hok a _ ea)
   exact ⟨_,Tu,⟨_,h1,rfl⟩,fun z=>nomatch z⟩
  | @frz a ob xs ea =>
   cases (show u=Qz a from rx)
   obtain ⟨_,_,_,n,_,h1⟩:=(show ObjOk X.prog X.w H s.heap a (.frz ob (.lst xs)) from I.hok a _ ea)
   exact ⟨_,Tu,⟨_,h1,rfl⟩,fun z=>nomatch z⟩
  | @tup a xs ea =>
   cases (show u=Qz a from rx)
   obtain ⟨_,_,_,p⟩:=(show ObjOk X.prog X.w H s.heap a (.tup xs) from I.hok a _ ea)
   obtain ⟨o,h1,h2,_⟩:=p
   exact ⟨_,Rk,⟨o,h1,h2⟩,fun z=>nomatch z⟩
  | @dK a kvs ea =>
   cases (show u=Qz a from rx)
   obtain ⟨_,_,vs,_,p⟩:=(show ObjOk X.prog X.w H s.heap a (.dK kvs) from I.hok a _ ea)
   obtain ⟨o,es,ep,h1,h2,_⟩:=p
   exact ⟨_,Tv,⟨o,h1,h2.1⟩,fun z=>nomatch z⟩
  | @dT a kvs ea =>
   cases (show u=Qz a from rx)
   obtain ⟨_,_,xs,_,o,es,ep,h1,h2,_⟩:=(show ObjOk X.prog X.w H s.heap a (.dT kvs) from I.hok a _ ea)
   exact ⟨_,Tv,⟨o,h1,h2.1⟩,fun z=>nomatch z⟩
  | @ins a C dx fs ea cl ha hn htk hm =>
   cases (show u=Qz a from rx)
   obtain ⟨mA,O,_⟩:=ZfX I.hok ea
   obtain ⟨od,J,_⟩:=O.look
   exact ⟨_,Mi (cl.get _) cl.hd ha hn htk hm,J,fun z=>nomatch z⟩
 ·cases (show u=Qz a from rx)
  obtain ⟨its,_,⟨o,h1,h2,_⟩,_⟩:=I.tuple h
  exact ⟨_,Rk,⟨o,h1,h2⟩,fun z=>nomatch z⟩
theorem Yx {K:Qb}(hK:X.K=K):Xe X (.builtin "isinstance") (fun xs H Q=>∃ x c t b,xs=[x,.ty c]/\TyS K H x t/\Gy K t (.type c)=some b/\Q (.bl b) H):=by
 subst hK
 intro pins s σ H xs us Q I r h
 obtain ⟨x,c,t,b,rfl,ty,e,q⟩:=h
 obtain ⟨u,u',rfl,ru,ru'⟩:=VZ r
 cases (show u'=Td c from ru')
 obtain ⟨Hh,Z,p,hx⟩:=ZfG I ru ty
 exact Gm Z I.kIn p e hx fun tk=>⟨.bl b,H,I.tok tk,rfl,q⟩
theorem Zdk:∀{Ts:List String}{us:List Qe},Vals (Ts.map V.ty) us->us=Ts.map Td
 | [],_,h=>by cases h;rfl
 | D::Ds,_,h=>by
  cases h with
  | cons r t=>rw [Zdk t,show _=Td D from r];rfl
theorem Zja {K:Qb}(hK:X.K=K):Xe X (.builtin "isinstance") (fun xs H Q=>∃ (x:V) (tp:Addr) (Ts:List String) (t:Qe) (b:Bool),xs=[x,.ref tp]/\TyS K H x t/\H tp=some (.tup (Ts.map V.ty))/\OS K t (Ts.map Td)=some b/\Q (.bl b) H):=by
 subst hK
 intro pins s σ H xs us Q I r h
 obtain ⟨x,tp,Ts,t,b,rfl,ty,htp,e,q⟩:=h
 obtain ⟨u,u',rfl,ru,ru'⟩:=VZ r
 cases (show u'=Qz tp from ru')
 obtain ⟨Hh,Z,p,hx⟩:=ZfG I ru ty
 obtain ⟨_,its,rv,pt⟩:=(show ObjOk X.prog X.w H s.heap tp (.tup (Ts.map V.ty)) from I.hok tp _ htp)
 obtain ⟨⟨oc,odi,oda,osl⟩,h1,h2,n,h3⟩:=pt
 dsimp only at h2 h3
 subst h2 h3
 rw [Zdk rv] at h1
 exact MH Z I.kIn p h1 e hx fun tk=>⟨.bl b,H,I.tok tk,rfl,q⟩
end
theorem PI.or {X:Cx}{tg e:Expr}{t u:TI}(h1:PI X tg e t)(h2:PI X tg e u):PI X tg e (fun σ H R=>t σ H R\/u σ H R):=by
 intro pins s σ H R I h
 rcases h with h | h
 ·exact h1 pins s σ H R I h
 ·exact h2 pins s σ H R I h
theorem Zdy {K:Qb}{a b:Addr}{xs zs:List V}{g:TG}{te:TE}{σ:St}{D:Addr}{Q:VK}{H:Hp}(hn:xs.length<=Qi)(hz:zs.length=xs.length)(Pv:Nat->List V->Hp->Prop)(h0:Pv 0 [] (upd H D (.lst [])))
 (hl:∀ i ys H,Pv i ys H->ys.length=i/\SqL K H a xs/\SqL K H b zs)
 (hs:∀ i x z t ys H wa wb,xs[i]?=some x->zs[i]?=some z->H t=none->Pv i ys H->g (.ref t) (σ++[wa,wb]) (upd H t (.tup [x,z])) fun σ' H'=>(∃ wa wb,σ'=σ++[wa,wb])/\te σ' H' fun y H4=>H4 D=some (.lst ys)/\Pv (i+1) (ys++[y]) (upd H4 D (.lst (ys++[y]))))
 (hd:∀ ys H,Pv xs.length ys H->Q (.ref D) H):ZdQ (Itz K a b) g te σ D Q H:=by
 refine ⟨fun i m ys H=>m=xs.length - i/\i<=xs.length/\Pv i ys H,⟨xs.length,by simp,Qp _,h0⟩,?_⟩
 rintro i m ys H2 ⟨rfl,hi,p⟩
 obtain ⟨hlen,q1,q2⟩:=hl i ys _ p
 by_cases hlt:i < xs.length
 ·have h2:i < zs.length:=by omega
  refine .inr ⟨⟨xs,zs,xs[i],zs[i],q1,q2,by simp [hlt],by simp [h2]⟩,_,fun y H4 (q:H4 D=some (.lst ys)/\Pv (i+1) (ys++[y]) (upd H4 D (.lst (ys++[y]))))=>⟨q.1,by omega,xs.length - (i+1),by omega,rfl,hlt,q.2⟩,fun wa wb v H3 y=>?_⟩
  obtain ⟨t,x,z,ht,hx,hz,rfl,rfl⟩:=y
  exact hs i x z t ys H2 wa wb (hx xs q1) (hz zs q2) ht p
 ·have e:i=xs.length:=by omega
  subst e
  exact .inl ⟨⟨xs,zs,q1,q2,by omega⟩,hd ys H2 p⟩
theorem ZgA {K:Qb}{a b:Addr}{xs zs:List V}{g:TG}{te:TE}{σ:St}{D:Addr}{Q:VK}{H:Hp}(hn:xs.length<=Qi)(hz:zs.length=xs.length)(Pv:Nat->List V->Hp->Prop)(h0:Pv 0 [] (upd H D (.lst [])))
 (hl:∀ i ys H,Pv i ys H->ys.length=i/\SqT K H a xs/\SqT K H b zs)
 (hs:∀ i x z t ys H wa wb,xs[i]?=some x->zs[i]?=some z->H t=none->Pv i ys H->g (.ref t) (σ++[wa,wb]) (upd H t (.tup [x,z])) fun σ' H'=>(∃ wa wb,σ'=σ++[wa,wb])/\te σ' H' fun y H4=>H4 D=some (.lst ys)/\Pv (i+1) (ys++[y]) (upd H4 D (.lst (ys++[y]))))
 (hd:∀ ys H,Pv xs.length ys H->Q (.ref D) H):ZdQ (Zhv K a b) g te σ D Q H:=by
 refine ⟨fun i m ys H=>m=xs.length - i/\i<=xs.length/\Pv i ys H,⟨xs.length,by simp,Qp _,h0⟩,?_⟩
 rintro i m ys H2 ⟨rfl,hi,p⟩
 obtain ⟨hlen,q1,q2⟩:=hl i ys _ p
 by_cases hlt:i < xs.length
 ·have h2:i < zs.length:=by omega
  refine .inr ⟨⟨xs,zs,xs[i],zs[i],q1,q2,by simp [hlt],by simp [h2]⟩,_,fun y H4 (q:H4 D=some (.lst ys)/\Pv (i+1) (ys++[y]) (upd H4 D (.lst (ys++[y]))))=>⟨q.1,by omega,xs.length - (i+1),by omega,rfl,hlt,q.2⟩,fun wa wb v H3 y=>?_⟩
  obtain ⟨t,x,z,ht,hx,hz,rfl,rfl⟩:=y
  exact hs i x z t ys H2 wa wb (hx xs q1) (hz zs q2) ht p
 ·have e:i=xs.length:=by omega
  subst e
  exact .inl ⟨⟨xs,zs,q1,q2,by omega⟩,hd ys H2 p⟩
end L2
namespace K69
open PySem L2
section
variable {P:Qm}{w:QC}{K:Qb}{mg:Str->Option Qe}{base:Heap}
def isI:V->Bool
 | .int _=>true
 | _=>false
def ZdO:Sp:=fun vs H Q _=>∃ v,vs=[v]/\IsVal v/\Q (.bl (isI v)) H
abbrev nNu:List Str:=["thing"]
abbrev pnNu:List Str:=["thing"]
theorem scNu:ZB nNu pnNu (Zl s_is_number):=⟨rfl,rfl,rfl,by decide +kernel,rfl,by decide +kernel,by decide +kernel⟩
theorem ZnO {f:Addr}{fd:Qq}(F:Fun K "is_number" "is_number" s_is_number f fd)(T:Ya mg):Fn1 P w K mg base 1 f fd "thing" ZdO:=by
 refine F.ok1 scNu (by decide +kernel) (fun _=>rfl) rfl (fun cdv A outer s H vs Q E hr h=>?_)
 obtain ⟨v,rfl,hv,q⟩:=h
 refine' ⟨?t,?h,?r⟩
 case h =>
  conv=>arg 2;whnf
  with_reducible refine' (Zh ?h1)
  case h1=>exact Zo (XZ (Zm (Yx (K:=K) rfl) rfl T.isinstance (by decide +kernel) (Zb (pv 0) (Zb (YH rfl T.int (by decide +kernel) (v:=.ty "int") rfl) Za))) (WH (ZbQ (Zm (Yx (K:=K) rfl) rfl T.isinstance (by decide +kernel) (Zb (pv 0) (Zb (YH rfl T.bool (by decide +kernel) (v:=.ty "bool") rfl) Za))))))
 cases v with
 | int i=>exact ⟨_,rfl,_,_,_,true,rfl,.inl (.int _),rfl,_,rfl,Zx ⟨_,rfl,_,_,_,false,rfl,.inl (.int _),rfl,_,rfl,q⟩⟩
 | str x=>exact ⟨_,rfl,_,_,_,false,rfl,.inl (.str _),rfl,_,rfl,Zw q⟩
 | _=>exact hv.elim
def Zjs:Sp:=fun vs H Q _=>∃ v,vs=[v]/\IsVal v/\Q (.str (Yk v)) H
abbrev nWr:List Str:=["_law_value_here"]
abbrev ZgM:List Str:=["_law_value_here"]
theorem scWr:ZB nWr ZgM (Zl s_l_written):=⟨rfl,rfl,rfl,by decide +kernel,rfl,by decide +kernel,by decide +kernel⟩
theorem Zgz {f:Addr}{fd:Qq}(F:Fun K "_law_written" "_law_written" s_l_written f fd)(T:Ya mg):FnOk P w K mg base Yc 1 f fd ZgM (fun vs H Q E=>∃ v,vs=[v]/\IsVal v/\∀ H',Same H H'->Q (.str (Yk v)) H'):=by
 refine F.ok scWr (fun vs H Q E h=>?_) (fun cdv A outer s H vs Q E hr h=>?_)
 ·obtain ⟨v,rfl,_⟩:=h;rfl
 obtain ⟨v,rfl,hv,q⟩:=h
 refine' ⟨?t,?h,?r⟩
 case h =>
  conv=>arg 2;whnf
  with_reducible refine' (Zf (ZT ?h1 (Zh ?h2) ZI) (Zh ?h3))
  case h1=>exact Yo (Zm (Yx (K:=K) rfl) rfl T.isinstance (by decide +kernel) (Zb (pv 0) (Zb (YH rfl T.int (by decide +kernel) (v:=.ty "int") rfl) Za)))
  case h2=>exact Zo (Yw Vo rfl T.str (by decide +kernel) (Zb (pv 0) Za))
  case h3=>exact Zo (Zj ZJ (Zj ZJ Zk (ZU Qo QT QU Xp Zk (Zb (XM (CompOk.of nWr s_l_written rfl rfl (by decide +kernel)) rfl (UI (pv 0))  (fun _ _ _ _ _=>Zj ZJ (Zj WA Zk (Yw ZaK rfl T.int (by decide +kernel) (Zb (Xv (Zhf (K:=K) rfl) (pv 1) (ZV (Zb Zk (Zb Zk Za))) rfl) Za))) (pv 1))) Za))) Zk)
 cases v with
 | int i=>exact ⟨_,rfl,_,_,_,true,rfl,.inl (.int _),rfl,_,rfl,Zx ⟨_,rfl,.inl ⟨i,rfl,(ZcX (IsVal.b31 hv)).1,q H (Same.refl H)⟩⟩⟩
 | str x =>
  refine ⟨_,rfl,_,_,_,false,rfl,.inl (.str _),rfl,_,rfl,Zw ?_⟩
  have hx:x.length<=40:=hv.1
  refine ⟨rfl,_,rfl,x,rfl,fun D hD=>?_⟩
  refine ZeJ (Zp (show x.length<=1000 by omega)) (fun i ys H'=>Same H H'/\H' D=some (.lst ys)/\ys=((x.cps.toList.take i).map Zab).map V.str/\i<=x.cps.size) ⟨Zg hD _,Ze,rfl,Qp _⟩ ?_ ?_ ?_
  ·rintro i ys H' ⟨_,_,rfl,hi⟩
   rw [length_map,length_map,length_take,QV];omega
  ·rintro i c ys H' hc ⟨s1,eD,rfl,hi⟩
   refine ⟨_,rfl,(by show 2<=Qi;decide),fun tp htp=>⟨tp,_,rfl,.inr (SqT.of Ze),rfl,rfl,.inr ⟨_,rfl,_,_,rfl,rfl,?_,_,rfl,_,_,rfl,rfl,?_,?_⟩⟩⟩
   ·exact Zpe _
   ·have:=Znp (if false=true then !YL (.str ⟨#[c]⟩) [.str "'",.str "\\"] else YL (.str ⟨#[c]⟩) [.str "'", .str "\\"])
    exact Zp (show _<=1000 by rw [WW];omega)
   ·dsimp only
    rw [ZkI]
    have s2:=Zg htp (.tup [.str "'",.str "\\"])
    refine ⟨s2 _ _ eD,fun b o e=>?_,Ze,?_,?_⟩
    ·rw [Zn (ZL e hD)];exact s2 _ _ (s1 _ _ e)
    ·have hc':x.cps.toList[i]?=some c:=by rw [Sd];exact hc
     rw [List.take_succ,hc',map_append,map_append];rfl
    ·have:=(GA.mp hc).1;omega
  ·rintro ys H2 ⟨s2,eD,rfl,_⟩
   rw [show x.cps.toList.take x.cps.size=x.cps.toList by rw [<- QV,take_length]] at eD
   have hsz:x.cps.toList.length<=40:=by rw [QV];exact hx
   have w1:=Zey x.cps.toList
   have w2:(QM "" (x.cps.toList.map Zab)).length<=100:=by
    have:=ZcQ x.cps.toList
    rw [<- Zds] at this
    show (QM "" _).cps.size<=100
    rw [<- QV];omega
   refine ⟨"",D,x.cps.toList.map Zab,rfl,rfl,SqL.of eD,?_,_,_,rfl,rfl,?_,_,_,rfl,rfl,?_,?_⟩
   ·rw [show (Qa "").length=0 by decide +kernel];omega
   ·exact Zp (show _<=1000 by rw [show (Qa "'").length=1 by decide +kernel];omega)
   ·exact Zp (show _<=1000 by rw [WV,show (Qa "'").length=1 by decide +kernel];omega)
   ·rw [Zle];exact q H2 s2
 | _=>exact hv.elim
abbrev nVt:List Str:=["value","slashed"]
abbrev Zgt:List Str:=["value"]
theorem scVt:ZB nVt Zgt (Zl s_value_text):=⟨rfl,rfl,rfl,by decide +kernel,rfl,by decide +kernel,by decide +kernel⟩
theorem ZpN {f:Addr}{fd:Qq}(F:Fun K "value_text" "value_text" s_value_text f fd)(T:Ya mg)(B:NBk K)(DNu:ZjV P w K mg base 1 "is_number" "thing" ZdO):FnOk P w K mg base Yc 2 f fd Zgt Zjs:=by
 refine F.ok scVt (fun vs H Q E h=>?_) (fun cdv A outer s H vs Q E hr h=>?_)
 ·obtain ⟨v,rfl,_⟩:=h;rfl
 obtain ⟨v,rfl,hv,q⟩:=h
 refine' ⟨?t,?h,?r⟩
 case h =>
  conv=>arg 2;whnf
  with_reducible refine' ZlN (px:="thing") (sp:=ZdO) ?a1 ?a2 ?a3 ?a4 (Zhz (i:=1) ?b1 ?b2 ?b3 ?b4 ?b5 ?b6 ?b7) ?g1 ?g2 ?g3 ?g4
  case g1=>exact rfl
  case g2=>decide
  case g3=>exact rfl
  case g4=>intro _;rfl
  case b6=>exact rfl
  case b7=>exact .inl rfl
  case a1=>exact DNu
  case a2=>exact hr
  case a3=>exact pv 0
  case a4=>exact Zh (Zo (Yw Vo rfl T.str (by decide +kernel) (Zb (pv 0) Za)))
  case b1=>exact scVt.nd
  case b2=>exact rfl
  case b3=>exact Qy rfl
  case b4=>exact Zgh B (by decide +kernel) (Zgh B (by decide +kernel) (PE.three (pv 0)))
  case b5=>exact Zh (Zo (Zj ZJ (Zj ZJ Zk (pv 1)) Zk))
 cases v with
 | int i=>exact ⟨_,rfl,_,rfl,hv,_,rfl,Zx ⟨_,rfl,.inl ⟨i,rfl,(ZcX (IsVal.b31 hv)).1,q⟩⟩⟩
 | str x =>
  have hx:x.length<=40:=hv.1
  have h1:=Zka x
  have h3:(Ja (Ja x "\\" "\\\\") "'" "\\'").length<=200:=by
   have e3:(Qa "'")=⟨#[39]⟩:=by decide +kernel
   have e4:(Qa "\\'")=⟨([92,39]:List Nat).toArray⟩:=by decide +kernel
   rw [e3,e4]
   have:=Zby 39 92 39 (Ja x "\\" "\\\\").cps.toList
   rw [<- VV,QV,QV] at this
   have h1':(Ja x "\\" "\\\\").cps.size<=2 * x.length:=h1
   show (Ja _ _ _).cps.size<=200
   omega
  refine ⟨_,rfl,_,rfl,hv,_,rfl,Zw ⟨_,rfl,x,rfl,by omega,_,rfl,by omega,?_⟩⟩
  refine ⟨_,rfl,_,_,rfl,rfl,Zp (show _<=1000 by rw [show (Qa "'").length=1 by decide +kernel];omega),_,_,rfl,rfl,Zp (show _<=1000 by rw [WV,show (Qa "'").length=1 by decide +kernel];omega),?_⟩
  rw [Ziz];exact q
 | _=>exact hv.elim
end
theorem VA {c:Bool}{A B:Prop}(h:c=false)(b:B):if c=true then A else B:=by rw [h];exact Zw b
theorem ifT {c:Bool}{A B:Prop}(h:c=true)(a:A):if c=true then A else B:=by rw [h];exact Zx a
def Wc:List (Str×List V):=[("set",[.str "name",.str "value",.str "slot"]),("look",[.str "name"]),("back",[.str "slot"]),("begin",[.str "program"]),("late",[.str "program"]),("copy",[.str "slot"]),("in",[.str "slot",.str "program"]),("pass",[])]
def UQ (x:Str):Option Bool:=(QO x Wc).map fun xs=>YL (.str "program") xs
theorem ZgD {x:Str}{xs:List V}(h:QO x Wc=some xs):xs.all WL=true:=by
 have:∀ p∈Wc,p.2.all WL=true:=by decide +kernel
 have mem:∀ (D:List (Str×List V)),QO x D=some xs->∃ p∈D,p.2=xs:=by
  intro D
  induction D with
  | nil=>intro h;cases h
  | cons p D ih =>
   intro h
   rw [QO] at h
   split at h
   ·cases h;exact ⟨p,mem_cons_self,rfl⟩
   ·obtain ⟨q,hq,e⟩:=ih h;exact ⟨q,mem_cons_of_mem _ hq,e⟩
 obtain ⟨p,hp,rfl⟩:=mem _ h
 exact this p hp
theorem ZaR {p:Pg}(h:p.ok):UQ p.word=some p.isB:=by
 cases p with
 | slot w s =>
  rcases h.1 with rfl | rfl
  ·exact (show UQ "back"=some false by decide +kernel)
  ·exact (show UQ "copy"=some false by decide +kernel)
 | blk w ps =>
  rcases h.1 with rfl | rfl
  ·exact (show UQ "begin"=some true by decide +kernel)
  ·exact (show UQ "late"=some true by decide +kernel)
 | inn s ps=>show UQ "in"=some true;decide +kernel
 | set x v s=>show UQ "set"=some false;decide +kernel
 | look x=>show UQ "look"=some false;decide +kernel
 | pass=>show UQ "pass"=some false;decide +kernel
section
variable {P:Qm}{w:QC}{K:Qb}{mg:Str->Option Qe}{base:Heap}{dk:Addr}
def ZaX (K:Qb):Sp:=fun vs H Q _=>∃ x:Str,vs=[.str x]/\(∀ b xs,QO x Wc=some xs->SqT K H b xs->Q (.ref b) H)/\(QO x Wc=none->Q .non H)
abbrev nKi:List Str:=["word"]
abbrev Zem:List Str:=["word"]
theorem scKi:ZB nKi Zem (Zl s_kinds_of):=⟨rfl,rfl,rfl,by decide +kernel,rfl,by decide +kernel,by decide +kernel⟩
theorem ZjG {f:Addr}{fd:Qq}(F:Fun K "kinds_of" "kinds_of" s_kinds_of f fd)(TK:KDic K dk Wc)(hK:mg "KINDS"=some (.ref dk)):FnOk P w K mg base Yc 1 f fd Zem (ZaX K):=by
 refine F.ok scKi (fun vs H Q E h=>?_) (fun cdv A outer s H vs Q E hr h=>?_)
 ·obtain ⟨x,rfl,_⟩:=h;rfl
 obtain ⟨x,rfl,q1,q2⟩:=h
 refine' ⟨?t,?h,?r⟩
 case h =>
  conv=>arg 2;whnf
  with_reducible refine' (Zh ?h1)
  case h1=>exact Zo (ZmJ TK (YS (v:=.ref _) rfl hK rfl) (pv 0) ⟨rfl,rfl,rfl,rfl⟩)
 exact ⟨_,rfl,x,rfl,fun b xs e1 e2=>q1 b xs e1 e2,fun e=>q2 e⟩
def ZaM:Sp:=fun vs H Q _=>∃(x:Str)(b:Bool),vs=[.str x]/\UQ x=some b/\Q (.bl b) H
abbrev nHw:List Str:=["word"]
abbrev ZcE:List Str:=["word"]
theorem scHw:ZB nHw ZcE (Zl s_has_within):=⟨rfl,rfl,rfl,by decide +kernel,rfl,by decide +kernel,by decide +kernel⟩
theorem Zmj {f:Addr}{fd:Qq}(F:Fun K "has_within" "has_within" s_has_within f fd)(DKi:Def P w K mg base 1 "kinds_of" Zem (ZaX K)):FnOk P w K mg base Yc 2 f fd ZcE ZaM:=by
 refine F.ok scHw (fun vs H Q E h=>?_) (fun cdv A outer s H vs Q E hr h=>?_)
 ·obtain ⟨x,b,rfl,_⟩:=h;rfl
 obtain ⟨x,b,rfl,hb,q⟩:=h
 refine' ⟨?t,?h,?r⟩
 case h =>
  conv=>arg 2;whnf
  with_reducible refine' (Zh ?h1)
  case h1=>exact Zo (Xv Wo Zk (Zu DKi hr (Zb (pv 0) Za)) rfl)
 refine ⟨_,rfl,x,rfl,fun d xs e1 e2=>?_,fun e=>?_⟩
 ·unfold UQ at hb
  rw [e1] at hb
  cases hb
  exact ⟨d,xs,rfl,.inr e2,rfl,ZgD e1,q⟩
 ·unfold UQ at hb
  rw [e] at hb
  cases hb
def ZbI (K:Qb):Sp:=fun vs H Q _=>∃(v:V)(p:Pg),vs=[v]/\DatT K H v p.dat/\p.ok/\∀ t H',Same H H'->DatT K H' t (.tuple (Pg.dats p.inner))->Q t H'
abbrev nPw:List Str:=["step"]
abbrev Zgx:List Str:=["step"]
theorem scPw:ZB nPw Zgx (Zl s_program_within):=⟨rfl,rfl,rfl,by decide +kernel,rfl,by decide +kernel,by decide +kernel⟩
theorem Zil {f:Addr}{fd:Qq}(F:Fun K "program_within" "program_within" s_program_within f fd)(DHw:Def P w K mg base 2 "has_within" ZcE ZaM):FnOk P w K mg base Yc 3 f fd Zgx (ZbI K):=by
 refine F.ok scPw (fun vs H Q E h=>?_) (fun cdv A outer s H vs Q E hr h=>?_)
 ·obtain ⟨v,p,rfl,_⟩:=h;rfl
 obtain ⟨v,p,rfl,hp,ho,q⟩:=h
 obtain ⟨a,xs,rfl,e,_,e0,_,e3⟩:=Zkf hp
 refine' ⟨?t,?h,?r⟩
 case h =>
  conv=>arg 2;whnf
  with_reducible refine' (Zh ?h1)
  case h1=>exact Zo (Yv (Yo (Zu DHw hr (Zb (ZG YI (pv 0) Zc (fun _ _=>rfl)) Za))) (ZG YI (pv 0) (Vu UM Zc) (fun _ _=>rfl)) (ZV Za))
 refine ⟨_,rfl,a,xs,_,_,rfl,rfl,e,ZF (j:=0) e0,_,p.isB,rfl,ZaR ho,_,rfl,?_⟩
 cases hb:p.isB with
 | true =>
  obtain ⟨t,e4,e5⟩:=e3 hb
  exact Zx ⟨_,rfl,_,rfl,a,xs,_,_,rfl,rfl,e,e4,q t H (Same.refl H) e5⟩
 | false =>
  refine Zw ⟨(by decide),fun t ht=>q _ _ (Zg ht _) ?_⟩
  rw [Pg.inner_none hb]
  exact .tup (SqT.of Ze) .nil
end
end K69
namespace L2
open PySem
structure FG (K:Qb)(x:Str)(st:Stmt)(f:Addr)(fd:Qq):Prop where
 a:QE K Qx x=some (some (.ref f))
 F:Fun K x x st f fd
structure FM (K:Qb)(C:Addr)(x q:Str)(st:Stmt)(f:Addr)(fd:Qq):Prop where
 m:Meth K C x f
 F:Fun K x q st f fd
structure Bs (P:Qm)(w:QC)(K:Qb)(mg:Str->Option Qe)(base h:Heap):Prop where
 X:K.In h
 G:h.Ns Qx mg
section
variable {P:Qm}{w:QC}{K:Qb}{mg:Str->Option Qe}{base h:Heap}{x q:Str}{st:Stmt}{f c Pl C:Addr}{fd:Qq}{k:Nat}{ps:List Str}{sp:Sp}{p1 p2 p3 p4 p5:Str}
theorem FG.df (g:FG K x st f fd)(e:Bs P w K mg base h)(o:FnOk P w K mg base Yc k f fd ps sp)(b:Binds K fd ps []):Def P w K mg base k x ps sp:=⟨f,fd,o,b,g.F.kp,PySem.W.mg_of e.X e.G g.a⟩
abbrev BA (x q:Str)(st:Stmt)(us:List Qe)(r:List (Str×Qe)):Prop:=∀(kV doc pm:Qe)(an:Option Addr)(cdv ct:Qe),bindArgs (SU x q (Zcy st) (Us st) (Zl st) .none kV doc pm an cdv ct) ⟨us,[]⟩=pure r
theorem Fun.b1 (F:Fun K x q st f fd)(h:∀ u,BA x q st [u] [(p1,u)]):Binds K fd [p1] []:=F.binds fun a b c d e g us hl=>match us,hl with | [u],_=>h u a b c d e g
theorem Fun.b2 (F:Fun K x q st f fd)(h:∀ u v,BA x q st [u,v] [(p1,u),(p2,v)]):Binds K fd [p1,p2] []:=F.binds fun a b c d e g us hl=>match us,hl with | [u,v],_=>h u v a b c d e g
theorem Fun.b5 (F:Fun K x q st f fd)(h:∀ u v y z z',BA x q st [u,v,y,z,z'] [(p1,u),(p2,v),(p3,y),(p4,z),(p5,z')]):Binds K fd [p1,p2,p3,p4,p5] []:=F.binds fun a b c d e g us hl=>match us,hl with | [u,v,y,z,z'],_=>h u v y z z' a b c d e g
theorem Zis (F:Fun K x q st f fd)(h:∀ u,BA x q st [u] [(p1,u)])(s:Qg)(v:Qe):Oi s fd ⟨[v],[]⟩ [(p1,v)]:=by
 obtain ⟨oc,od,kV,doc,pm,an,cdv,ct,osl,rfl,lk,hcd⟩:=F.ex
 exact .of_eq (h v kV doc pm an cdv ct)
end
end L2
namespace L2
open PySem PySem.Spec PyProof.Rows
def Zlm:Expr->Option V
 | .Constant (.int i) _ _=>some (.int i)
 | .Constant (.str x) _ _=>some (.str x)
 | .Constant (.bool b) _ _=>some (.bl b)
 | .Constant .none _ _=>some .non
 | _=>none
def ZgU:List Expr->Option (List V)
 | []=>some []
 | e::es=>match Zlm e,ZgU es with
  | some v,some vs=>some (v::vs)
  | _,_=>none
section
variable {X:Cx}
theorem Zni {e:Expr}{v:V}(h:Zlm e=some v):PE X e (tC v)/\∀ es,QH (e::es) X.env=(false,eval e X.env)::QH es X.env:=by
 unfold Zlm at h
 split at h<;>cases h
 ·exact ⟨Zc,fun _=>rfl⟩
 ·exact ⟨Zk,fun _=>rfl⟩
 ·exact ⟨Zad,fun _=>rfl⟩
 ·exact ⟨YQ,fun _=>rfl⟩
def Zph (vs:List V):TA:=fun _ H Q=>Q vs H
theorem Vz:∀{es:List Expr}{vs:List V},ZgU es=some vs->PA X es (Zph vs)
 | [],_,h=>by cases h;exact Za
 | e :: es,vs,h=>by
  rw [ZgU] at h
  split at h
  ·rename_i v ws h1 h2
   cases h
   obtain ⟨p,s⟩:=Zni (X:=X) h1
   exact YC p (Vz h2) (s es)
  ·cases h
end
section
variable {X:Cx}
end
section
variable {K:Qb}{x q:Str}{st:Stmt}{f:Addr}{fd:Qq}{p1 p2 p3 p4 p5 p6 p7:Str}
end
section
variable {X:Cx}
end
mutual
inductive DatA (K:Qb)(H:Hp):V->Ji->Prop
 | non:DatA K H .non .none
 | bl (b):DatA K H (.bl b) (.bool b)
 | int (i):DatA K H (.int i) (.int i)
 | str (x):DatA K H (.str x) (.str x)
 | lst {a xs ds}:H a=some (.lst xs)->xs.length<=20000->DatAs K H xs ds->DatA K H (.ref a) (.list ds)
 | tup {a xs ds}:SqT K H a xs->xs.length<=20000->DatAs K H xs ds->DatA K H (.ref a) (.tuple ds)
inductive DatAs (K:Qb)(H:Hp):List V->List Ji->Prop
 | nil:DatAs K H [] []
 | cons {v d vs ds}:DatA K H v d->DatAs K H vs ds->DatAs K H (v::vs) (d::ds)
end
mutual
theorem DatA.same {K:Qb}{H H':Hp}(s:Same H H'):∀{v d},DatA K H v d->DatA K H' v d
 | _,_,.non=>.non
 | _,_,.bl b=>.bl b
 | _,_,.int i=>.int i
 | _,_,.str x=>.str x
 | _,_,.lst e h q=>.lst (s _ _ e) h (DatAs.same s q)
 | _,_,.tup e h q=>.tup (e.tf s.tf) h (DatAs.same s q)
theorem DatAs.same {K:Qb}{H H':Hp}(s:Same H H'):∀{vs ds},DatAs K H vs ds->DatAs K H' vs ds
 | _,_,.nil=>.nil
 | _,_,.cons r t=>.cons (DatA.same s r) (DatAs.same s t)
end
theorem DatAs.len {K:Qb}{H:Hp}:∀{vs ds},DatAs K H vs ds->vs.length=ds.length
 | _,_,.nil=>rfl
 | _,_,.cons q t=>by rw [length_cons,length_cons,DatAs.len t]
theorem DatAs.at {K:Qb}{H:Hp}:∀{vs ds}{i:Nat}{v:V},DatAs K H vs ds->vs[i]?=some v->∃ d,ds[i]?=some d/\DatA K H v d
 | _,_,_,_,.nil,h=>by simp at h
 | _,_,0,_,.cons a _,h=>by cases h;exact ⟨_,rfl,a⟩
 | _,_,i+1,_,.cons _ b,h=>DatAs.at (i:=i) b h
theorem Zbr:∀{ds:List Ji}{i:Nat}{d:Ji},ds[i]?=some d->d.depth<=GD ds
 | [],_,_,h=>by simp at h
 | q::ds,0,_,h=>by cases h;rw [GD];exact MI _ _
 | q::ds,i+1,p,h=>by rw [GD];exact Qw (Zbr (ds:=ds) (i:=i) h) (Ms _ _)
section
variable {X:Cx}{pins:List (Addr×Obj)}{σ:St}{H:Hp}{s:Qg}
mutual
theorem DatA.reads (I:Inv X pins σ H s):∀{v d}(u:Qe),DatA X.K H v d->RelV v u->d.hasDict=false/\∃ as,Reads s.heap u d as
 | _,_,u,.non,r=>by cases (show u=.none from r);exact ⟨rfl,_,.none⟩
 | _,_,u,.bl b,r=>by cases (show u=.bool b from r);exact ⟨rfl,_,.bool b⟩
 | _,_,u,.int i,r=>by obtain ⟨t,e⟩:=(show ∃ t,u=.int i t from r);subst e;exact ⟨rfl,_,.int i t⟩
 | _,_,u,.str x,r=>by obtain ⟨t,e⟩:=(show ∃ t,u=.str x t from r);subst e;exact ⟨rfl,_,.str x t⟩
 | _,_,u,.lst (a:=a) (xs:=xs) e _ q,r=>by
  cases (show u=.ref a from r)
  obtain ⟨_,its,n,rv,g⟩:=(show ObjOk X.prog X.w H s.heap a (.lst xs) from I.hok a _ e)
  obtain ⟨nd,as,ra⟩:=DatAs.reads I its q rv
  exact ⟨by simpa [TH] using nd,_,.list g rfl rfl (by simpa using ra)⟩
 | _,_,u,.tup (a:=a) (xs:=xs) e _ q,r=>by
  cases (show u=.ref a from r)
  obtain ⟨its,rv,⟨o,g,c,n,d⟩,_⟩:=I.tuple e
  obtain ⟨nd,as,ra⟩:=DatAs.reads I its q rv
  exact ⟨by simpa [TH] using nd,_,.tuple g c d (by simpa using ra)⟩
theorem DatAs.reads (I:Inv X pins σ H s):∀{vs ds}(us:List Qe),DatAs X.K H vs ds->Vals vs us->Jz ds=false/\∃ as,ReadsAll s.heap us ds as
 | _,_,_,.nil,.nil=>⟨rfl,_,.nil⟩
 | _,_,_,.cons r t,.cons rv tv=>by
  obtain ⟨n1,as,r1⟩:=DatA.reads I _ r rv
  obtain ⟨n2,bs,r2⟩:=DatAs.reads I _ t tv
  exact ⟨by simp [Jz,n1,n2],_,.cons r1 r2⟩
end
end
section
variable {X:Cx}
end
section
variable {X:Cx}
end
end L2
namespace K69
open PySem L2
mutual
def nb:Ji->Bool
 | .bool _=>false
 | .list ds=>nbs ds
 | .tuple ds=>nbs ds
 | .none=>true
 | .int _=>true
 | .str _=>true
 | .dict _=>false
def nbs:List Ji->Bool
 | []=>true
 | d::ds=>nb d&&nbs ds
end
theorem Zfe:∀{ds:List Ji}{i:Nat}{d:Ji},nbs ds=true->ds[i]?=some d->nb d=true
 | [],_,_,_,h=>by simp at h
 | q::ds,0,_,n,h=>by cases h;rw [nbs,QL] at n;exact n.1
 | q::ds,i+1,d,n,h=>by rw [nbs,QL] at n;exact Zfe (ds:=ds) (i:=i) n.2 h
section
variable {P:Qm}{w:QC}{K:Qb}{mg:Str->Option Qe}{base:Heap}
def ZaI (K:Qb)(n:Nat):Sp:=fun vs H Q _=>∃(x y:V)(d:Ji),vs=[x,y]/\DatA K H x d/\DatA K H y d/\nb d=true/\d.depth < n/\∀ H',Same H H'->Q (.bl true) H'
abbrev nSa:List Str:=["_law_found","_law_due"]
abbrev ZbK:List Str:=["_law_found","_law_due"]
theorem scSa:ZB nSa ZbK (Zl s_l_same):=⟨rfl,rfl,rfl,by decide +kernel,rfl,by decide +kernel,by decide +kernel⟩
theorem ZeG {f:Addr}{fd:Qq}{n k:Nat}(F:Fun K "_law_same" "_law_same" s_l_same f fd)(T:Ya mg)(DSa:Def P w K mg base k "_law_same" ZbK (fun vs H Q E=>∃ m,m < n/\ZaI K m vs H Q E)):FnOk P w K mg base Yc (k+1) f fd ZbK (ZaI K n):=by
 refine F.ok scSa (fun vs H Q E h=>?_) (fun cdv A outer s H vs Q E hr h=>?_)
 ·obtain ⟨x,y,d,rfl,_⟩:=h;rfl
 obtain ⟨x,y,d,rfl,dx,dy,hb,hn,q⟩:=h
 refine' ⟨?t,?h,?r⟩
 case h =>
  conv=>arg 2;whnf
  with_reducible refine' (Zf (ZT ?h1 (Zf (ZT ?h2 (Zh ?h3) ZI) (Zh ?h4)) ZI) (Zf (ZT ?h5 (Zh ?h6) ZI) (Zh ?h7)))
  case h1=>exact Yo (Zm (Zja (K:=K) rfl) rfl T.isinstance (by decide +kernel) (Zb (pv 1) (Zb (ZV (Wa (YH rfl T.list (by decide +kernel) (v:=.ty "list") rfl) (Wa (YH rfl T.tuple (by decide +kernel) (v:=.ty "tuple") rfl) Za rfl) rfl)) Za)))
  case h2=>exact PW.pt (Xt (ZA WK (Zm (Yx (K:=K) rfl) rfl T.isinstance (by decide +kernel) (Zb (pv 0) (Zb (YH rfl T.list (by decide +kernel) (v:=.ty "list") rfl) Za))) (Zm (Yx (K:=K) rfl) rfl T.isinstance (by decide +kernel) (Zb (pv 1) (Zb (YH rfl T.list (by decide +kernel) (v:=.ty "list") rfl) Za))) (ZC _)) (Wg (ZA WK (Zm (Yx (K:=K) rfl) rfl T.isinstance (by decide +kernel) (Zb (pv 0) (Zb (YH rfl T.tuple (by decide +kernel) (v:=.ty "tuple") rfl) Za))) (Zm (Yx (K:=K) rfl) rfl T.isinstance (by decide +kernel) (Zb (pv 1) (Zb (YH rfl T.tuple (by decide +kernel) (v:=.ty "tuple") rfl) Za))) (ZC _))))
  case h3=>exact Zo Zad
  case h4=>exact Zo (XZ (Xv Xb (Zm ZP rfl T.len Qu (Zb (pv 0) Za)) (Zm ZP rfl T.len Qu (Zb (pv 1) Za)) (ZC _)) (WH (Zm (Wx rfl) rfl T.all (by decide +kernel) (Zb (Zkn (xa:="_law_one") (xb:="_law_other") (CompOkT.of nSa s_l_same rfl rfl (by decide +kernel)) rfl (PI.or (Zjk rfl T.zip (pv 0) (pv 1)) (ZmW rfl T.zip (pv 0) (pv 1))) (fun _ _ _ _ _=>Zgb (K:=K) rfl rfl (ZM (i:=2) (show (UR nSa "_law_one" "_law_other"++(["_law_one","_law_other"]:List Str)).Nodup by decide +kernel) rfl (Qy rfl) (Rn rfl)) (ZM (i:=3) (show (UR nSa "_law_one" "_law_other"++(["_law_one","_law_other"]:List Str)).Nodup by decide +kernel) rfl (Qy rfl) (Rn rfl)))  (fun _ _ _ _ _=>Zu DSa hr (Zb (pv 2) (Zb (pv 3) Za)))) Za))))
  case h5=>exact PW.pt (Xt (Wu (Ui (pv 1))) (Wg (Yo (Zm (Yx (K:=K) rfl) rfl T.isinstance (by decide +kernel) (Zb (pv 1) (Zb (YH rfl T.str (by decide +kernel) (v:=.ty "str") rfl) Za))))))
  case h6=>exact Zo (XZ (Xv Xb (pv 0) (pv 1) (ZC _)) (WH (Xv Xb (Zm (Yx (K:=K) rfl) rfl T.isinstance (by decide +kernel) (Zb (pv 0) (Zb (YH rfl T.str (by decide +kernel) (v:=.ty "str") rfl) Za))) (Zm (Yx (K:=K) rfl) rfl T.isinstance (by decide +kernel) (Zb (pv 1) (Zb (YH rfl T.str (by decide +kernel) (v:=.ty "str") rfl) Za))) (ZC _))))
  case h7=>exact Zo (XZ (Zm (Yx (K:=K) rfl) rfl T.isinstance (by decide +kernel) (Zb (pv 0) (Zb (YH rfl T.int (by decide +kernel) (v:=.ty "int") rfl) Za))) (XZ (ZbQ (Zm (Yx (K:=K) rfl) rfl T.isinstance (by decide +kernel) (Zb (pv 0) (Zb (YH rfl T.bool (by decide +kernel) (v:=.ty "bool") rfl) Za)))) (WH (Xv Xb (pv 0) (pv 1) (ZC _)))))
 have tyx:∀ {z:V} {d:Ji} {H':Hp},DatA K H' z d->∃ t,TyS K H' z t/\Gy K t (.type "list")=some (match d with | .list _=>true | _=>false)/\Gy K t (.type "tuple")=some (match d with | .tuple _=>true | _=>false)/\Gy K t (.type "bool")=some (match d with | .bool _=>true | _=>false)/\Gy K t (.type "str")=some (match d with | .str _=>true | _=>false)/\Gy K t (.type "int")=some (match d with | .int _=>true | .bool _=>true | _=>false)/\OS K t [.type "list",.type "tuple"]=some (match d with | .list _=>true | .tuple _=>true | _=>false):=by
  intro z d H' h
  cases h with
  | non=>exact ⟨_,.inl .non,rfl,rfl,rfl,rfl,rfl,rfl⟩
  | bl b=>exact ⟨_,.inl (.bl b),rfl,rfl,rfl,rfl,rfl,rfl⟩
  | int i=>exact ⟨_,.inl (.int i),rfl,rfl,rfl,rfl,rfl,rfl⟩
  | str x=>exact ⟨_,.inl (.str x),rfl,rfl,rfl,rfl,rfl,rfl⟩
  | lst e _ _=>exact ⟨_,.inl (.lst e),rfl,rfl,rfl,rfl,rfl,rfl⟩
  | tup e _ _=>exact ⟨_,.inr ⟨_,_,rfl,rfl,e⟩,rfl,rfl,rfl,rfl,rfl,rfl⟩
 refine ⟨_,rfl,(show 2<=Qi by decide),fun tp htp=>?_⟩
 have s1:=Zg htp (.tup [.ty "list",.ty "tuple"])
 have etp:upd H tp (.tup [.ty "list",.ty "tuple"]) tp=some (.tup ((["list","tuple"]:List String).map V.ty)):=Ze
 replace dx:=DatA.same s1 dx
 replace dy:=DatA.same s1 dy
 generalize upd H tp (.tup [.ty "list",.ty "tuple"])=H1 at *
 obtain ⟨t1,ty1,l1,p1,b1,w1,i1,a1⟩:=tyx dx
 obtain ⟨t2,ty2,l2,p2,b2,w2,i2,a2⟩:=tyx dy
 refine ⟨y,tp,_,t2,_,rfl,ty2,etp,a2,_,rfl,?_⟩
 cases dx with
 | bl i=>exact absurd (show false=true from hb) (by decide)
 | non =>
  cases dy
  refine Zw ⟨_,rfl,_,rfl,ifT rfl ?_⟩
  refine ⟨_,rfl,_,rfl,rfl,_,rfl,ifT (decide_eq_true rfl) ?_⟩
  refine ⟨_,rfl,_,_,_,_,rfl,ty1,w1,_,rfl,_,_,_,_,rfl,ty2,w2,rfl,?_⟩
  rw [decide_eq_true rfl];exact q H1 s1
 | int i =>
  cases dy
  refine Zw ⟨_,rfl,_,rfl,VA rfl ?_⟩
  refine ⟨_,rfl,_,_,_,_,rfl,ty2,w2,_,rfl,Zw ?_⟩
  refine ⟨_,rfl,_,_,_,_,rfl,ty1,i1,_,rfl,Zx ?_⟩
  refine ⟨_,rfl,_,_,_,_,rfl,ty1,b1,_,rfl,_,rfl,ifT rfl ?_⟩
  refine ⟨_,rfl,_,rfl,rfl,?_⟩
  rw [decide_eq_true rfl];exact q H1 s1
 | str i =>
  cases dy
  refine Zw ⟨_,rfl,_,rfl,VA rfl ?_⟩
  refine ⟨_,rfl,_,_,_,_,rfl,ty2,w2,_,rfl,Zx ?_⟩
  refine ⟨_,rfl,_,rfl,rfl,_,rfl,ifT (decide_eq_true rfl) ?_⟩
  refine ⟨_,rfl,_,_,_,_,rfl,ty1,w1,_,rfl,_,_,_,_,rfl,ty2,w2,rfl,?_⟩
  rw [decide_eq_true rfl];exact q H1 s1
 | lst e1 h1 q1 =>
  cases dy with
  | lst e2 h2 q2 =>
  rename_i av1 xs1 ds av2 xs2
  have hnb:nbs ds=true:=hb
  have hl1:=q1.len
  have hl2:=q2.len
  refine Zx ⟨_,rfl,_,_,_,_,rfl,ty1,l1,_,rfl,_,_,_,_,rfl,ty2,l2,rfl,_,rfl,VA rfl ?_⟩
  refine ⟨_,rfl,_,_,_,_,rfl,ty1,p1,_,rfl,_,_,_,_,rfl,ty2,p2,rfl,_,rfl,VA rfl ?_⟩
  refine ⟨_,rfl,_,xs1,rfl,.inl (SqL.of e1),_,rfl,_,xs2,rfl,.inl (SqL.of e2),rfl,_,rfl,ifT (decide_eq_true (by rw [hl1,hl2])) ?_⟩
  refine .inl ⟨_,rfl,_,rfl,_,_,xs1,xs2,rfl,e1,e2,fun D hD=>?_⟩
  refine Zdy (K:=K) (xs:=xs1) (zs:=xs2) (Zp (show xs1.length<=20000 from h1)) (by omega) (fun i ys H'=>Same H1 H'/\H' D=some (.lst ys)/\ys=(QI i true).map V.bl) ⟨Zg hD _,Ze,rfl⟩ ?_ ?_ ?_
  ·rintro i ys H' ⟨s4,_,rfl⟩;exact ⟨by simp,SqL.of (s4 _ _ e1),SqL.of (s4 _ _ e2)⟩
  ·rintro i x z t ys H' wa wb hx hz ht ⟨s4,eD,rfl⟩
   obtain ⟨d1,ed1,dd1⟩:=q1.at hx
   obtain ⟨d2,ed2,dd2⟩:=q2.at hz
   cases (ed1.symm.trans ed2)
   have s5:=s4.trans (Zg ht (.tup [x,z]))
   refine ⟨t,_,rfl,SqT.of Ze,rfl,_,_,rfl,_,_,rfl,rfl,⟨_,_,rfl⟩,?_⟩
   refine ⟨_,rfl,_,rfl,d1.depth+1,by have h3:=Zbr ed1;have h4:(PyData.list ds).depth < n:=hn;rw [PF] at h4;omega,x,z,d1,rfl,dd1.same s5,dd2.same s5,Zfe hnb ed1,RY _,fun H2 s6=>⟨s6 _ _ (Zg ht (.tup [x,z]) _ _ eD),fun b o q=>?_,Ze,?_⟩⟩
   ·rw [Zn (ZL q hD)];exact s6 _ _ (s5 _ _ q)
   ·rw [JF,map_append];rfl
  ·rintro ys H3 ⟨s3,eD,rfl⟩
   refine ⟨D,_,rfl,SqL.of eD,?_⟩
   rw [show ∀ k,(QI k true).all id=true from fun k=>by simp]
   exact q H3 (s1.trans s3)
 | tup e1 h1 q1 =>
  cases dy with
  | tup e2 h2 q2 =>
  rename_i av1 xs1 ds av2 xs2
  have hnb:nbs ds=true:=hb
  have hl1:=q1.len
  have hl2:=q2.len
  refine Zx ⟨_,rfl,_,_,_,_,rfl,ty1,l1,_,rfl,_,_,_,_,rfl,ty2,l2,rfl,_,rfl,VA rfl ?_⟩
  refine ⟨_,rfl,_,_,_,_,rfl,ty1,p1,_,rfl,_,_,_,_,rfl,ty2,p2,rfl,_,rfl,VA rfl ?_⟩
  refine ⟨_,rfl,_,xs1,rfl,.inr e1,_,rfl,_,xs2,rfl,.inr e2,rfl,_,rfl,ifT (decide_eq_true (by rw [hl1,hl2])) ?_⟩
  refine .inr ⟨_,rfl,_,rfl,_,_,xs1,xs2,rfl,e1,e2,fun D hD=>?_⟩
  refine ZgA (K:=K) (xs:=xs1) (zs:=xs2) (Zp (show xs1.length<=20000 from h1)) (by omega) (fun i ys H'=>Same H1 H'/\H' D=some (.lst ys)/\ys=(QI i true).map V.bl) ⟨Zg hD _,Ze,rfl⟩ ?_ ?_ ?_
  ·rintro i ys H' ⟨s4,_,rfl⟩;exact ⟨by simp,e1.tf s4.tf,e2.tf s4.tf⟩
  ·rintro i x z t ys H' wa wb hx hz ht ⟨s4,eD,rfl⟩
   obtain ⟨d1,ed1,dd1⟩:=q1.at hx
   obtain ⟨d2,ed2,dd2⟩:=q2.at hz
   cases (ed1.symm.trans ed2)
   have s5:=s4.trans (Zg ht (.tup [x,z]))
   refine ⟨t,_,rfl,SqT.of Ze,rfl,_,_,rfl,_,_,rfl,rfl,⟨_,_,rfl⟩,?_⟩
   refine ⟨_,rfl,_,rfl,d1.depth+1,by have h3:=Zbr ed1;have h4:(TR ds).depth < n:=hn;rw [PF] at h4;omega,x,z,d1,rfl,dd1.same s5,dd2.same s5,Zfe hnb ed1,RY _,fun H2 s6=>⟨s6 _ _ (Zg ht (.tup [x,z]) _ _ eD),fun b o q=>?_,Ze,?_⟩⟩
   ·rw [Zn (ZL q hD)];exact s6 _ _ (s5 _ _ q)
   ·rw [JF,map_append];rfl
  ·rintro ys H3 ⟨s3,eD,rfl⟩
   refine ⟨D,_,rfl,SqL.of eD,?_⟩
   rw [show ∀ k,(QI k true).all id=true from fun k=>by simp]
   exact q H3 (s1.trans s3)
theorem ZfQ {f:Addr}{fd:Qq}(F:Fun K "_law_same" "_law_same" s_l_same f fd)(T:Ya mg)(b:Binds K fd ZbK [])(kp:Gk K (.ref f)=true)(m:mg "_law_same"=some (.ref f)):∀ n,FnOk P w K mg base Yc (n+1) f fd ZbK (ZaI K n)
 | 0=>ZeG F T ⟨_,_,⟨fun vs H Q E ⟨_,h,_⟩=>absurd h (Gv _),fun _ _ _ _ _ _ _ _ _ _ _ _ _ ⟨_,h,_⟩=>absurd h (Gv _)⟩,b,kp,m⟩
 | n+1=>ZeG F T ⟨_,_,(ZfQ F T b kp m n).imp fun vs H Q E ⟨j,h,x,y,d,a1,a2,a3,a4,a5,a6⟩=>⟨x,y,d,a1,a2,a3,a4,by omega,a6⟩,b,kp,m⟩
end
end K69
namespace L2
open PySem PySem.Spec PyProof.Rows
section
variable {prog:Qm}{w:QC}{A:QK}{E:Qe->Qg->Prop}{s:Qg}
theorem Zln {z TI TO i1 i2 l1 l2:Addr}{k:Nat}{xs ys:Array Qe}{x y a b:Qe}{Q:Option Qe->Qg->Prop}(D:Rq z TI TO i1 i2 l1 l2)(hz:JP s.heap z TI TO .none)(hTI:GE s.heap TI (.ref i1) (.ref i2))(hTO:GE s.heap TO a b)
 (h1:s.heap.IsTupleIter i1 l1 k) (h2:s.heap.IsListIter i2 l2 k) (t1:s.heap.IsTuple l1 xs) (t2:s.heap.IsList l2 ys) (hx:xs[k]?=some x) (hy:ys[k]?=some y)
 (q:∀ h',JP h' z TI TO (JN s.heap.objs.size)->GE h' TO x y->h'.IsTupleIter i1 l1 (k+1)->h'.IsListIter i2 l2 (k+1)->GE h' s.heap.objs.size x y->h'.objs.size=s.heap.objs.size+1 ->
  (∀ c o,c≠z->c≠TO->c≠i1->c≠i2->s.heap.get? c=some o->h'.get? c=some o)->Q (some (.ref s.heap.objs.size)) { s with heap:=h' }):Qr (QA prog w) A (Sj (.ref z)) Q E s:=by
 have hT:s.TypeIs (.ref z) "zip":=⟨_,hz,rfl⟩
 unfold Sj
 refine Qd (Ss (Go (name:=Qa "__next__") hT GK (GW GK hT PH ?_ (Pj _))))
 refine Qd (m:=RW (.ref z) 2) (QN hz rfl (x:=.bool false) rfl ?_)
 refine Qd (m:=RW (.ref z) 3) (QN hz rfl (x:=.ref TI) rfl ?_)
 refine Qd (Gq hTI rfl ?_)
 refine Qd (m:=QJ (.ref z)) ?_
 unfold QJ
 refine Qd (QN hz rfl (x:=.none) rfl (Qk ?_))
 simp only [if_true]
 refine Qd (Te ?_)
 refine Qd (QN hz rfl (x:=.ref TO) rfl ?_)
 refine Qd (Gf hz (by simp) fun ha hza sa=>?_)
 replace hza:JP ha z TI TO .ellipsis:=hza
 refine Qd ?_
 simp only [PJ,Tc,forIn_cons,TU]
 have Ea:=sa.extBut
 refine Qd (Qd (JK ?_))
 refine Qd (m:=QP (.ref i1)) (UH (h1.extBut Ea D.i1z) (t1.extBut Ea D.l1z) hx fun hb i1b sb=>Qk ?_)
 have Eb:=sb.extBut
 have TOb:GE hb TO a b:=Eb _ _ D.TOi1 (Ea _ _ D.TOz hTO)
 refine Qd (Gq TOb rfl ?_)
 refine Qd (JE TOb fun hc TOc sc=>?_)
 replace TOc:GE hc TO x b:=TOc
 have Ec:=sc.extBut
 refine Qd (RB (Qk ?_))
 refine Qd (Qd (JK ?_))
 refine Qd (m:=QP (.ref i2)) (wpAny_nextOf_list_item (((h2.extBut Ea D.i2z).extBut Eb D.i12.symm).extBut Ec D.TOi2.symm) (((t2.extBut Ea D.l2z).extBut Eb D.l2i1).extBut Ec D.l2TO) hy fun hd i2d sd=>Qk ?_)
 have Ed:=sd.extBut
 have TOd:GE hd TO x b:=Ed _ _ D.TOi2 TOc
 refine Qd (Gq TOd rfl ?_)
 refine Qd (JE TOd fun he TOe se=>?_)
 replace TOe:GE he TO x y:=TOe
 have Ee:=se.extBut
 refine Qd (RB (Qk (Qk ?_)))
 refine Qd (Gq TOe rfl ?_)
 refine Qd (wpAny_newTuple ?_)
 have hsz:he.objs.size=s.heap.objs.size:=by rw [se.1,sd.1,sc.1,sb.1,sa.1]
 have all:∀ c o,c≠z->c≠TO->c≠i1->c≠i2->s.heap.get? c=some o->he.get? c=some o:=fun c o c1 c2 c3 c4 e=>Ee _ _ c2 (Ed _ _ c4 (Ec _ _ c2 (Eb _ _ c3 (Ea _ _ c1 e))))
 have ze:JP he z TI TO .ellipsis:=Ee _ _ D.TOz.symm (Ed _ _ D.i2z.symm (Ec _ _ D.TOz.symm (Eb _ _ D.i1z.symm hza)))
 have i1e:he.IsTupleIter i1 l1 (k+1):=((i1b.extBut Ec D.TOi1.symm).extBut Ed D.i12).extBut Ee D.TOi1.symm
 have i2e:he.IsListIter i2 l2 (k+1):=i2d.extBut Ee D.TOi2.symm
 have zl:z < he.objs.size:=Qj ze
 refine Qd (m:=GH (.ref z) (.ref he.objs.size)) ?_
 unfold GH
 refine Qd (Gf (show JP (he.push { cls:=.type "tuple",data:=.seq #[x,y] }) z TI TO .ellipsis from Qf _ ze) (by simp) fun hf zf sf=>?_)
 replace zf:JP hf z TI TO (JN he.objs.size):=zf
 refine Gf zf (by simp) fun hg zg sg=>?_
 replace zg:JP hg z TI TO (JN he.objs.size):=zg
 have up:∀ c o,c≠z->he.get? c=some o->hg.get? c=some o:=fun c o c1 e=>sg.extBut _ _ c1 (sf.extBut _ _ c1 (Qf _ e))
 have new:GE hg he.objs.size x y:=sg.extBut _ _ (GY zl) (sf.extBut _ _ (GY zl) (Qn _ rfl))
 have sz:hg.objs.size=he.objs.size+1:=by rw [sg.1,sf.1,Gd]
 rw [hsz] at zg new sz
 refine Qk ⟨_,rfl,?_⟩
 show Qr _ _ (pure (some (Qz he.objs.size))) _ _ _
 rw [hsz]
 refine Qk (q hg zg (up _ _ D.TOz TOe) ?_ ?_ new sz fun c o c1 c2 c3 c4 e=>up c o c1 (all c o c1 c2 c3 c4 e))
 ·obtain ⟨o,eo,r⟩:=i1e;exact ⟨o,up _ _ D.i1z eo,r⟩
 ·obtain ⟨o,eo,r⟩:=i2e;exact ⟨o,up _ _ D.i2z eo,r⟩
theorem ZlQ {z TI TO i1 i2 l1 l2:Addr}{k:Nat}{xs:Array Qe}{a b:Qe}{Q:Option Qe->Qg->Prop}(hh:A.handled=none)(D:Rq z TI TO i1 i2 l1 l2)(hz:JP s.heap z TI TO .none)(hTI:GE s.heap TI (.ref i1) (.ref i2))(hTO:GE s.heap TO a b)
 (h1:s.heap.IsTupleIter i1 l1 k) (t1:s.heap.IsTuple l1 xs) (hx:xs[k]?=none)
 (q:∀ h',(∀ c o,c≠z->c≠TO->c≠i1->c≠i2->s.heap.get? c=some o->h'.get? c=some o)->Q none { s with heap:=h' }):Qr (QA prog w) A (Sj (.ref z)) Q E s:=by
 have hT:s.TypeIs (.ref z) "zip":=⟨_,hz,rfl⟩
 unfold Sj
 refine Qd (Ss (Go (name:=Qa "__next__") hT GK (GW GK hT PH ?_ (Pj _))))
 refine Qd (m:=RW (.ref z) 2) (QN hz rfl (x:=.bool false) rfl ?_)
 refine Qd (m:=RW (.ref z) 3) (QN hz rfl (x:=.ref TI) rfl ?_)
 refine Qd (Gq hTI rfl ?_)
 refine Qd (m:=QJ (.ref z)) ?_
 unfold QJ
 refine Qd (QN hz rfl (x:=.none) rfl (Qk ?_))
 simp only [if_true]
 refine Qd (Te ?_)
 refine Qd (QN hz rfl (x:=.ref TO) rfl ?_)
 refine Qd (Gf hz (by simp) fun ha hza sa=>?_)
 replace hza:JP ha z TI TO .ellipsis:=hza
 refine Qd ?_
 simp only [PJ,Tc,forIn_cons,TU]
 refine Qd (Qd (JK ?_))
 refine Qd (m:=QP (.ref i1)) (ZbT hh (h1.extBut sa.extBut D.i1z) (t1.extBut sa.extBut D.l1z) hx fun hb e Eb he=>?_)
 obtain ⟨oe,eoe,ce⟩:=he
 have zb:JP hb z TI TO .ellipsis:=Eb _ _ D.i1z.symm hza
 have ez:e≠z:=fun x=>by subst x;rw [zb] at eoe;cases eoe;simp at ce
 refine Gf zb (by simp) fun hc _ sc=>?_
 refine Qd (RX (T:="StopIteration") (b:=true) ⟨oe,sc.extBut _ _ ez eoe,ce⟩ OT ?_)
 exact Qk (q _ fun c o c1 _ c3 _ x=>sc.extBut _ _ c1 (Eb _ _ c3 (sa.extBut _ _ c1 x)))
theorem ZkR {z TI TO i1 i2 l1 l2:Addr}{k:Nat}{xs ys:Array Qe}{x a b:Qe}{Q:Option Qe->Qg->Prop}(hh:A.handled=none)(D:Rq z TI TO i1 i2 l1 l2)(hz:JP s.heap z TI TO .none)(hTI:GE s.heap TI (.ref i1) (.ref i2))(hTO:GE s.heap TO a b)
 (h1:s.heap.IsTupleIter i1 l1 k) (h2:s.heap.IsListIter i2 l2 k) (t1:s.heap.IsTuple l1 xs) (t2:s.heap.IsList l2 ys) (hx:xs[k]?=some x) (hy:ys[k]?=none)
 (q:∀ h',(∀ c o,c≠z->c≠TO->c≠i1->c≠i2->s.heap.get? c=some o->h'.get? c=some o)->Q none { s with heap:=h' }):Qr (QA prog w) A (Sj (.ref z)) Q E s:=by
 have hT:s.TypeIs (.ref z) "zip":=⟨_,hz,rfl⟩
 unfold Sj
 refine Qd (Ss (Go (name:=Qa "__next__") hT GK (GW GK hT PH ?_ (Pj _))))
 refine Qd (m:=RW (.ref z) 2) (QN hz rfl (x:=.bool false) rfl ?_)
 refine Qd (m:=RW (.ref z) 3) (QN hz rfl (x:=.ref TI) rfl ?_)
 refine Qd (Gq hTI rfl ?_)
 refine Qd (m:=QJ (.ref z)) ?_
 unfold QJ
 refine Qd (QN hz rfl (x:=.none) rfl (Qk ?_))
 simp only [if_true]
 refine Qd (Te ?_)
 refine Qd (QN hz rfl (x:=.ref TO) rfl ?_)
 refine Qd (Gf hz (by simp) fun ha hza sa=>?_)
 replace hza:JP ha z TI TO .ellipsis:=hza
 refine Qd ?_
 simp only [PJ,Tc,forIn_cons,TU]
 have Ea:=sa.extBut
 refine Qd (Qd (JK ?_))
 refine Qd (m:=QP (.ref i1)) (UH (h1.extBut Ea D.i1z) (t1.extBut Ea D.l1z) hx fun hb i1b sb=>Qk ?_)
 have Eb:=sb.extBut
 have TOb:GE hb TO a b:=Eb _ _ D.TOi1 (Ea _ _ D.TOz hTO)
 refine Qd (Gq TOb rfl ?_)
 refine Qd (JE TOb fun hc TOc sc=>?_)
 have Ec:=sc.extBut
 refine Qd (RB (Qk ?_))
 refine Qd (Qd (JK ?_))
 refine Qd (m:=QP (.ref i2)) (wpAny_nextOf_list_end hh (((h2.extBut Ea D.i2z).extBut Eb D.i12.symm).extBut Ec D.TOi2.symm) (((t2.extBut Ea D.l2z).extBut Eb D.l2i1).extBut Ec D.l2TO) hy fun hd e Ed he=>?_)
 obtain ⟨oe,eoe,ce⟩:=he
 have zb:JP hd z TI TO .ellipsis:=Ed _ _ D.i2z.symm (Ec _ _ D.TOz.symm (Eb _ _ D.i1z.symm hza))
 have ez:e≠z:=fun x=>by subst x;rw [zb] at eoe;cases eoe;simp at ce
 refine Gf zb (by simp) fun hf _ sf=>?_
 refine Qd (RX (T:="StopIteration") (b:=true) ⟨oe,sf.extBut _ _ ez eoe,ce⟩ OT ?_)
 exact Qk (q _ fun c o c1 c2 c3 c4 x=>sf.extBut _ _ c1 (Ed _ _ c4 (Ec _ _ c2 (Eb _ _ c3 (Ea _ _ c1 x)))))
end
abbrev Zac (l:Addr):Obj:={ cls:=.type "list_iterator",data:=.fields #[.ref l,.int 0 0] }
abbrev ZcP (h:Heap)(l1 l2:Addr):Heap:=((((h.push (Yj l1)).push (Zac l2)).push { cls:=.type "tuple",data:=.seq #[.ref h.objs.size,.ref (h.push (Yj l1)).objs.size] }).push { cls:=.type "tuple",data:=.seq #[.none,.none] })
theorem Zmw (l1 l2:Addr)(xs ys:Array Qe):Meets (Tb.«zip.__new__» ⟨[.type "zip",.ref l1,.ref l2],[]⟩) (fun _ R s=>s.heap.IsTuple l1 xs/\s.heap.IsList l2 ys /\
 R (.ok (.ret (.ref (ZcP s.heap l1 l2).objs.size))) { s with heap:=(ZcP s.heap l1 l2).push { cls:=.type "zip",data:=.fields #[.none,.bool false,.bool false,.ref ((s.heap.push (Yj l1)).push (Zac l2)).objs.size,.ref (((s.heap.push (Yj l1)).push (Zac l2)).push { cls:=.type "tuple",data:=.seq #[.ref s.heap.objs.size,.ref (s.heap.push (Yj l1)).objs.size] }).objs.size] } }) :=
 .of_wp fun prog w A R s h=>by
  obtain ⟨hp,g,d,tk,os⟩:=s;obtain ⟨hl1,hl2,h⟩:=h
  have hsub:=sub_zip
  have hL1:NZ (RC ⟨hp,g,d,tk,os⟩) l1 xs:=hl1
  have hL2:Heap.IsList (RC ⟨hp.push (Yj l1),g,d,tk,os⟩) l2 ys:=Heap.IsList.push hl2 _
  wp_walk using Tf hL1,Jv hL2
  exact ⟨_,rfl,h⟩
section
variable {prog:Qm}{w:QC}{A:QK}{E:Qe->Qg->Prop}{s:Qg}
theorem Zke {l1 l2:Addr}{xs ys:Array Qe}{Q:Qe->Qg->Prop}(hl1:s.heap.IsTuple l1 xs)(hl2:s.heap.IsList l2 ys)
 (h:∀ h',JP h' (s.heap.objs.size+4) (s.heap.objs.size+2) (s.heap.objs.size+3) .none->GE h' (s.heap.objs.size+2) (.ref s.heap.objs.size) (.ref (s.heap.objs.size+1)) ->
  GE h' (s.heap.objs.size+3) .none .none->h'.IsTupleIter s.heap.objs.size l1 0->h'.IsListIter (s.heap.objs.size+1) l2 0->h'.objs.size=s.heap.objs.size+5 ->
  (∀ c o,s.heap.get? c=some o->h'.get? c=some o)->Q (.ref (s.heap.objs.size+4)) { s with heap:=h' }):Qr (QA prog w) A (call (.type "zip") [.ref l1,.ref l2]) Q E s:=by
 refine callType_new F.called_zip (by decide) (Mt _ _) (MJ _ _) (fun obj=>OU obj _ _) MK (Zmw l1 l2 xs ys) ⟨hl1,hl2,?_⟩
 have z1:(s.heap.push (Yj l1)).objs.size=s.heap.objs.size+1:=Gd ..
 have z2:((s.heap.push (Yj l1)).push (Zac l2)).objs.size=s.heap.objs.size+2:=by rw [Gd,z1]
 have z3:(((s.heap.push (Yj l1)).push (Zac l2)).push { cls:=.type "tuple",data:=.seq #[.ref s.heap.objs.size,.ref (s.heap.push (Yj l1)).objs.size] }).objs.size=s.heap.objs.size+3:=by rw [Gd,z2]
 have z4:(ZcP s.heap l1 l2).objs.size=s.heap.objs.size+4:=by rw [Gd,z3]
 show _/\_
 rw [z4,z3,z2]
 have up:∀ {h:Heap} {o:Obj} {c:Addr} {u:Obj},h.get? c=some u->(h.push o).get? c=some u:=fun e=>Qf _ e
 have g5:((ZcP s.heap l1 l2).push { cls:=.type "zip",data:=.fields #[.none,.bool false,.bool false,.ref (s.heap.objs.size+2),.ref (s.heap.objs.size+3)] }).get? (ZcP s.heap l1 l2).objs.size=some _:=Qn _ rfl
 have g4:(ZcP s.heap l1 l2).get? _=some _:=Qn _ rfl
 have g3:(((s.heap.push (Yj l1)).push (Zac l2)).push { cls:=.type "tuple",data:=.seq #[.ref s.heap.objs.size,.ref (s.heap.push (Yj l1)).objs.size] }).get? _=some _:=Qn _ rfl
 have g2:((s.heap.push (Yj l1)).push (Zac l2)).get? _=some _:=Qn _ rfl
 have g1:(s.heap.push (Yj l1)).get? _=some _:=Qn _ rfl
 rw [z4] at g5
 rw [z3] at g4
 rw [z2] at g3
 rw [z1] at g2
 conv at g3=>rhs;rw [z1]
 exact ⟨⟨_,g5,rfl⟩,h _ g5 (up (up g3)) (up g4) ⟨_,up (up (up (up g1))),rfl,rfl⟩ ⟨_,up (up (up g2)),rfl,rfl⟩ (by rw [Gd,z4]) fun c o x=>up (up (up (up (up x))))⟩
end
def ZaU (K:Qb)(l1 l2:Addr):It :=
 ⟨fun i H=>∃ xs ys x y,SqT K H l1 xs/\SqL K H l2 ys/\xs[i]?=some x/\ys[i]?=some y,
  fun i H v H'=>∃ t x y,H t=none/\(∀ xs,SqT K H l1 xs->xs[i]?=some x)/\(∀ ys,SqL K H l2 ys->ys[i]?=some y)/\v=.ref t/\H'=upd H t (.tup [x,y]),
  fun i H=>∃ xs ys,SqT K H l1 xs/\SqL K H l2 ys/\(xs.length<=i\/ys.length<=i)⟩
theorem ZgT {P:Qm}{w:QC}{K:Qb}{elts:List Expr}{x1:Nat}{tp:Pos}{z TI TO i1 i2 l1 l2:Addr}(D:Rq z TI TO i1 i2 l1 l2)(hTl1:l1≠TI)(hTl2:l2≠TI) :
 Ub P w K (.Tuple elts x1 tp) (ZaU K l1 l2) [z,TI,TO,i1,i2] z (fun i h=>JP h z TI TO .none/\GE h TI (.ref i1) (.ref i2)/\(∃ a b,GE h TO a b)/\h.IsTupleIter i1 l1 i/\h.IsListIter i2 l2 i) where
 mem:=by simp
 obj:=fun i h st b hb=>by
  obtain ⟨hz,hTI,⟨a,c,hTO⟩,⟨o1,ho1,c1,d1⟩,⟨o2,ho2,c2,d2⟩⟩:=st
  simp only [mem_cons,not_mem_nil,or_false] at hb
  rcases hb with q | q | q | q | q
  ·rw [q];exact ⟨_,hz,fun v z=>by cases z⟩
  ·rw [q];exact ⟨_,hTI,fun v z=>by cases z⟩
  ·rw [q];exact ⟨_,hTO,fun v z=>by cases z⟩
  ·rw [q];exact ⟨o1,ho1,fun v z=>by rw [d1] at z;cases z⟩
  ·rw [q];exact ⟨o2,ho2,fun v z=>by rw [d2] at z;cases z⟩
 keep:=fun i h h' st k=>by
  obtain ⟨hz,hTI,⟨a,c,hTO⟩,h1,h2⟩:=st
  exact ⟨k z (by simp) _ hz,k TI (by simp) _ hTI,⟨a,c,k TO (by simp) _ hTO⟩,h1.at fun o y=>k i1 (by simp) o y,h2.at fun o y=>k i2 (by simp) o y⟩
 item:=by
  intro X hP hw hK hc i pins s σ H E I hf st hg
  subst hP hw hK
  obtain ⟨hz,hTI,⟨a,b,hTO⟩,h1,h2⟩:=st
  obtain ⟨xs,ys,x,y,hq1,hq2,hx,hy⟩:=hg
  obtain ⟨its1,rv1,p1,hz1⟩:=I.tuple hq1
  obtain ⟨its2,rv2,p2,hz2⟩:=I.list hq2
  obtain ⟨u1,hu1,ru1⟩:=rv1.get hx
  obtain ⟨u2,hu2,ru2⟩:=rv2.get hy
  refine Zln D hz hTI hTO h1 h2 p1 p2.isList (by simpa using hu1) (by simpa using hu2) fun h' g1 g2 g3 g4 g5 g6 g7=>?_
  refine ⟨_,rfl,PM g1 fun h2' g1' hs2=>?_⟩
  have hzl:z < s.heap.objs.size:=Qj hz
  have hTIl:TI < s.heap.objs.size:=Qj hTI
  have hTOl:TO < s.heap.objs.size:=Qj hTO
  have hi1l:i1 < s.heap.objs.size:=by obtain ⟨o,ho,_⟩:=h1;exact Qj ho
  have hi2l:i2 < s.heap.objs.size:=by obtain ⟨o,ho,_⟩:=h2;exact Qj ho
  have g5':h'.get? s.heap.objs.size=some ({ cls:=.type "tuple",data:=.seq #[u1,u2] }:Obj):=g5
  generalize hO:({ cls:=.type "tuple",data:=.seq #[u1,u2] }:Obj)=O at g5'
  have I1:Inv X pins σ (upd H s.heap.objs.size (.tup [x,y])) { s with heap:=s.heap.push O,toks:=s.toks }:=by
   refine I.laid (t':=s.toks) (fun b o y=>Qf _ y) (Qh _) (show ObjOk X.prog X.w _ _ _ (.tup _) from ⟨by show 2<=Qi;decide,[u1,u2],.cons ru1 (.cons ru2 .nil),?_⟩)
   rw [<- hO];exact Px _ _
  have hfree:=I.hok.fresh (Qh s.heap.objs.size)
  have hf2:∀ b∈[z,TI,TO,i1,i2],YM X pins (upd H s.heap.objs.size (.tup [x,y])) b:=fun b hb=>by
   obtain ⟨f0,f1⟩:=hf b hb
   have hb':b≠s.heap.objs.size:=by
    simp only [mem_cons,not_mem_nil,or_false] at hb
    rcases hb with q | q | q | q | q<;>(rw [q];exact Qt (by assumption))
   exact ⟨by rw [Zn hb'];exact f0,f1⟩
  have I2:Inv X pins σ (upd H s.heap.objs.size (.tup [x,y])) { s with heap:=h2',toks:=s.toks }:=by
   refine I1.turned2 (t':=s.toks) (h':=h2') (fun b o hb y=>?_) hf2
   have n1:b≠z:=fun q=>hb (by simp [q])
   have n2:b≠TO:=fun q=>hb (by simp [q])
   have n3:b≠i1:=fun q=>hb (by simp [q])
   have n4:b≠i2:=fun q=>hb (by simp [q])
   rw [hs2.2 b n1]
   rcases JB y with ⟨q1,q2⟩ | y
   ·rw [q1,q2];exact g5'
   ·exact g7 b o n1 n2 n3 n4 y
  refine ⟨.ref s.heap.objs.size,_,I2,rfl,⟨s.heap.objs.size,x,y,hfree,fun ys hy'=>by rw [I.tuple_inj hy' hq1];exact hx,fun ys' hy'=>by rw [I.list_inj hy' hq2];exact hy,rfl,rfl⟩,⟨g1',?_,⟨u1,u2,?_⟩,?_,?_⟩,fun b hb=>(hf2 b hb).1⟩
  ·show h2'.get? TI=_
   rw [hs2.2 TI D.TIz];exact g7 TI _ D.TIz D.TITO D.TIi1 D.TIi2 hTI
  ·show h2'.get? TO=_
   rw [hs2.2 TO D.TOz];exact g2
  ·exact g3.at fun o y=>by rw [hs2.2 i1 D.i1z];exact y
  ·exact g4.at fun o y=>by rw [hs2.2 i2 D.i2z];exact y
 done:=by
  intro X hP hw hK hc i pins s σ H E I hf st hg
  subst hP hw hK
  obtain ⟨hz,hTI,⟨a,b,hTO⟩,h1,h2⟩:=st
  obtain ⟨xs,ys,hq1,hq2,hle⟩:=hg
  obtain ⟨its1,rv1,p1,hz1⟩:=I.tuple hq1
  obtain ⟨its2,rv2,p2,hz2⟩:=I.list hq2
  have l1:=rv1.length
  have l2:=rv2.length
  have fin:∀ h':Heap,(∀ c o,c≠z->c≠TO->c≠i1->c≠i2->s.heap.get? c=some o->h'.get? c=some o)->Inv X pins σ H { s with heap:=h',toks:=s.toks }:=fun h' eb=>I.turned2 (t':=s.toks) (fp:=[z,TI,TO,i1,i2]) (fun b o hb y=>eb b o (fun q=>hb (by simp [q])) (fun q=>hb (by simp [q])) (fun q=>hb (by simp [q])) (fun q=>hb (by simp [q])) y) hf
  by_cases hlt:xs.length<=i
  ·exact ZlQ (I.ok.hd hc) D hz hTI hTO h1 p1 (Jf (by simp;omega)) fun h' eb=>⟨rfl,fin h' eb⟩
  ·exact ZkR (I.ok.hd hc) D hz hTI hTO h1 h2 p1 p2.isList (x:=its1[i]'(by omega)) (by simp [show i < its1.length by omega]) (Jf (by simp;omega)) fun h' eb=>⟨rfl,fin h' eb⟩
 self:=fun _ _ _ _ _ st h=>JQ st.1 h
def Znk (K:Qb)(ta tb:TE):TI:=fun σ H R=>ta σ H fun v H1=>tb σ H1 fun u H2=>∃ a b xs ys,[v,u]=[V.ref a,V.ref b]/\SqT K H2 a xs/\H2 b=some (.lst ys)/\R (ZaU K a b) H2
section
variable {X:Cx}
theorem Zlh {l m:Expr}{ta tb:TE}{elts:List Expr}{x1:Nat}{tp p pos:Pos}(hg:Gl X "zip")(hm:X.mg "zip"=none)(hl:PE X l ta)(hr:PE X m tb)
 (he:QH [l,m] X.env=(false,eval l X.env)::QH [m] X.env:=by rfl) (he2:QH [m] X.env=[(false,eval m X.env)]:=by rfl) (hpl:(Jp pos (QH [m] X.env)).any (·.1)=false:=by rfl):PI X (.Tuple elts x1 tp) (.Call (.Name "zip" p) [l,m] [] pos) (Znk X.K ta tb):=by
 intro pins s σ H R I h
 have ha:PA X [l,m] (Xa ta (Xa tb Xf)):=YC hl (YC hr Za he2) he
 refine Gc (Ug I hg hm ZbM ?_)
 refine Gw (Zt (ha pos pins s σ H (fun vs H2=>∃ a b xs ys,vs=[V.ref a,V.ref b]/\SqT X.K H2 a xs/\H2 b=some (.lst ys)/\R (ZaU X.K a b) H2) I h) fun us s1 ⟨vs,H1,I1,r1,a,b,xs,ys,e,ea,eb,q⟩=>?_) he hpl
 subst e
 obtain ⟨u1,u2,rfl,r2,r3⟩:∃ u1 u2,us=[u1,u2]/\RelV (V.ref a) u1/\RelV (V.ref b) u2:=by
  cases r1 with
  | cons p t=>cases t with
   | cons p2 t2=>cases t2;exact ⟨_,_,rfl,p,p2⟩
 cases r2
 cases r3
 obtain ⟨its1,rv1,⟨o1,eo1,c1,n1,d1⟩,_⟩:=I1.tuple ea
 obtain ⟨z2,its2,n2,rv2,hl2,eo2⟩:=I1.lstM eb
 have ha1:a < s1.heap.objs.size:=Qj eo1
 have hb1:b < s1.heap.objs.size:=Qj eo2
 refine Zke ⟨_,eo1,c1,n1,d1⟩ ⟨_,eo2,rfl,n2,rfl⟩ fun h' g1 g2 g3 g4 g5 g6 g7=>JQ g1 ?_
 refine ⟨s1.heap.objs.size+4,[s1.heap.objs.size+4,s1.heap.objs.size+2,s1.heap.objs.size+3,s1.heap.objs.size,s1.heap.objs.size+1],_,_,H1,rfl,I1.kept (t':=s1.toks) g7,ZgT (l1:=a) (l2:=b) ⟨?_,?_,?_,?_,?_,?_,?_,?_,?_,?_,?_,?_,?_,?_,?_,?_,?_,?_⟩ ?_ ?_,⟨g1,g2,⟨_,_,g3⟩,g4,g5⟩,fun c hc=>?_,q⟩
 rotate_right
 ·simp only [mem_cons,not_mem_nil,or_false] at hc
  have up:∀ k,YM X pins H1 (s1.heap.objs.size+k):=fun k=>I1.fpOk (Gp _ k) (I1.hok.fresh (Gp _ k))
  rcases hc with q | q | q | q | q
  ·rw [q];exact up 4
  ·rw [q];exact up 2
  ·rw [q];exact up 3
  ·rw [q];exact up 0
  ·rw [q];exact up 1
 all_goals
  first
   | exact Qt (by first | (apply QB (by assumption);omega) | (simp only [GP];decide) | (show _ < _+_;exact GQ (by decide)))
   | exact GY (by first | (simp only [GP];decide) | exact GQ (by decide))
end
theorem Zji {K:Qb}{a b:Addr}{xs ys:List V}{g:TG}{tb:TS}{D:Uz}{σ:St}{H:Hp}(hlen:ys.length<=xs.length)(Pv:Nat->St->Hp->Prop)(h0:Pv 0 σ H)(hl:∀ i σ H,i<=ys.length->Pv i σ H->SqT K H a xs/\SqL K H b ys)
 (hs:∀ i x y t σ H,xs[i]?=some x->ys[i]?=some y->H t=none->Pv i σ H->g (.ref t) σ (upd H t (.tup [x,y])) fun σ2 H2=>tb { D with nx:=Pv (i+1),ct:=Pv (i+1),bk:=D.nx } σ2 H2) (hd:∀ σ H,Pv ys.length σ H->D.nx σ H) :
 ∃ W:Nat->Nat->St->Hp->Prop,(∃ m,W 0 m σ H)/\∀ i m σ H,W i m σ H ->
  ((ZaU K a b).stop i H/\D.nx σ H)\/((ZaU K a b).go i H/\∃ N:St->Hp->Prop,(∀ σ' H',N σ' H'->∃ m',m' < m/\W (i+1) m' σ' H')/\∀ x H',(ZaU K a b).yld i H x H'->g x σ H' fun σ2 H2=>tb { D with nx:=N,ct:=N,bk:=D.nx } σ2 H2):=by
 refine ⟨fun i m σ H=>m=ys.length - i/\i<=ys.length/\Pv i σ H,⟨ys.length,by simp,Qp _,h0⟩,?_⟩
 rintro i m σ H ⟨rfl,hi,p⟩
 obtain ⟨q1,q2⟩:=hl i σ H hi p
 by_cases hlt:i < ys.length
 ·refine .inr ⟨⟨xs,ys,xs[i]'(by omega),ys[i],q1,q2,by simp [show i < xs.length by omega],by simp [hlt]⟩,Pv (i+1),fun σ' H' p'=>⟨ys.length - (i+1),by omega,rfl,hlt,p'⟩,fun x H' y=>?_⟩
  obtain ⟨t,x',y',e1,e2,e3,e4,e5⟩:=y
  subst e4 e5
  exact hs i x' y' t σ _ (e2 xs q1) (e3 ys q2) e1 p
 ·have e:i=ys.length:=by omega
  subst e
  exact .inl ⟨⟨xs,ys,q1,q2,.inr (Qh _)⟩,hd σ H p⟩
end L2
namespace K69
open PySem L2
def _root_.L2.Pg.ws:Pg->List Str
 | .set x v s=>[x,Yk v,s]
 | .look x=>[x]
 | .slot _ s=>[s]
 | .pass=>[]
 | .blk _ _=>[]
 | .inn s _=>[s]
def _root_.L2.Pg.srow (p:Pg):Str:=QM " " (p.word::p.ws)
def _root_.L2.Pg.ks:Pg->List Str
 | .set _ _ _=>["name","value","slot"]
 | .look _=>["name"]
 | .slot _ _=>["slot"]
 | .pass=>[]
 | .blk _ _=>[]
 | .inn _ _=>["slot"]
def Fit:List V->List Str->List Str->Prop
 | u::us,k::ks,y::ws=>((k="value"/\IsVal u/\y=Yk u)\/(k≠"value"/\u=.str y))/\Fit us ks ws
 | _,[],[]=>True
 | _,_,_=>False
theorem Fit.at:∀ {us:List V} {ks ws:List Str} {i:Nat} {k:Str},Fit us ks ws->ks[i]?=some k->∃ u y,us[i]?=some u/\ws[i]?=some y/\((k="value"/\IsVal u/\y=Yk u)\/(k≠"value"/\u=.str y))
 | u::us,k::ks,y::ws,0,_,h,e=>by cases e;exact ⟨u,y,rfl,rfl,h.1⟩
 | u::us,k::ks,y::ws,i+1,_,h,e=>by simpa using Fit.at (i:=i) h.2 e
 | _,[],_,_,_,_,e=>by simp at e
 | [],_::_,_,_,_,h,_=>by simp [Fit] at h
 | _::_,_::_,[],_,_,h,_=>by simp [Fit] at h
theorem Fit.len:∀{us:List V}{ks ws:List Str},Fit us ks ws->ks.length<=us.length/\ws.length=ks.length
 | u::us,k::ks,y::ws,h=>by have:=Fit.len h.2;simp only [length_cons];omega
 | _,[],[],_=>⟨Qp _,rfl⟩
 | _,[],_::_,h=>by simp [Fit] at h
 | [],_::_,_,h=>by simp [Fit] at h
 | _::_,_::_,[],h=>by simp [Fit] at h
theorem ZfD {K:Qb}{H:Hp}{u v:V}(h:DatT K H u (VW v))(hv:IsVal v):u=v:=by
 cases v with
 | int i=>cases h;rfl
 | str x=>cases h;rfl
 | _=>exact hv.elim
def Xm (x:Str):Option (List V):=(QO x Wc).map fun xs=>xs.filter fun v=>!decide (v=.str "program")
theorem ZiQ {K:Qb}{H:Hp}{v:V}{p:Pg}(h:DatT K H v p.dat)(ho:p.ok):∃ a xs,v=.ref a/\SqT K H a (.str p.word::xs)/\xs.length<=3/\Xm p.word=some (p.ks.map V.str)/\Fit xs p.ks p.ws:=by
 have nv:∀ x:Str,x="name"\/x="slot"->x≠"value":=by
  intro x hx;rcases hx with rfl | rfl<;>decide +kernel
 cases p with
 | set x v s =>
  obtain ⟨a,xs,rfl,e,q⟩:=DatT.tupI h
  obtain _ | ⟨q1,q2⟩:=q
  cases q1;obtain _ | ⟨q3,q4⟩:=q2;cases q3;obtain _ | ⟨q5,q6⟩:=q4;obtain _ | ⟨q7,q8⟩:=q6;cases q7;cases q8
  have e5:=ZfD q5 ho.2.1
  subst e5
  exact ⟨a,_,rfl,e,by simp,(show Xm "set"=some ((["name","value","slot"]:List Str).map V.str) by decide +kernel),.inr ⟨nv _ (.inl rfl),rfl⟩,.inl ⟨rfl,ho.2.1,rfl⟩,.inr ⟨nv _ (.inr rfl),rfl⟩,trivial⟩
 | look x =>
  obtain ⟨a,xs,rfl,e,q⟩:=DatT.tupI h
  obtain _ | ⟨q1,q2⟩:=q
  cases q1;obtain _ | ⟨q3,q4⟩:=q2;cases q3;cases q4
  exact ⟨a,_,rfl,e,by simp,(show Xm "look"=some ((["name"]:List Str).map V.str) by decide +kernel),.inr ⟨nv _ (.inl rfl),rfl⟩,trivial⟩
 | slot w s =>
  obtain ⟨a,xs,rfl,e,q⟩:=DatT.tupI h
  obtain _ | ⟨q1,q2⟩:=q
  cases q1;obtain _ | ⟨q3,q4⟩:=q2;cases q3;cases q4
  refine ⟨a,_,rfl,e,by simp,?_,.inr ⟨nv _ (.inr rfl),rfl⟩,trivial⟩
  rcases ho.1 with rfl | rfl
  ·exact (show Xm "back"=some ((["slot"]:List Str).map V.str) by decide +kernel)
  ·exact (show Xm "copy"=some ((["slot"]:List Str).map V.str) by decide +kernel)
 | pass =>
  obtain ⟨a,xs,rfl,e,q⟩:=DatT.tupI h
  obtain _ | ⟨q1,q2⟩:=q
  cases q1;cases q2
  exact ⟨a,_,rfl,e,by simp,(show Xm "pass"=some (([]:List Str).map V.str) by decide +kernel),trivial⟩
 | blk w ps =>
  obtain ⟨a,xs,rfl,e,q⟩:=DatT.tupI h
  obtain _ | ⟨q1,q2⟩:=q
  cases q1;obtain _ | ⟨q3,q4⟩:=q2;cases q4
  refine ⟨a,_,rfl,e,by simp,?_,trivial⟩
  rcases ho.1 with rfl | rfl
  ·exact (show Xm "begin"=some (([]:List Str).map V.str) by decide +kernel)
  ·exact (show Xm "late"=some (([]:List Str).map V.str) by decide +kernel)
 | inn s ps =>
  obtain ⟨a,xs,rfl,e,q⟩:=DatT.tupI h
  obtain _ | ⟨q1,q2⟩:=q
  cases q1;obtain _ | ⟨q3,q4⟩:=q2;cases q3;obtain _ | ⟨q5,q6⟩:=q4;cases q6
  exact ⟨a,_,rfl,e,by simp,(show Xm "in"=some ((["slot"]:List Str).map V.str) by decide +kernel),.inr ⟨nv _ (.inr rfl),rfl⟩,trivial⟩
theorem Zeu {p:Pg}(h:p.ok):p.word.length<=5/\(∀ y∈p.ws,y.length<=100)/\p.ws.length<=3:=by
 cases p with
 | set x v s =>
  have h1:=h.1.2.1
  have h2:=ZjO h.2.1
  have h3:=h.2.2.2.1
  refine ⟨(show (Qa "set").length<=5 by decide +kernel),fun y hy=>?_,by simp [Pg.ws]⟩
  simp only [Pg.ws,mem_cons,not_mem_nil,or_false] at hy
  rcases hy with rfl | rfl | rfl<;>omega
 | look x =>
  have h1:=(show Yg x from h).2.1
  refine ⟨(show (Qa "look").length<=5 by decide +kernel),fun y hy=>?_,by simp [Pg.ws]⟩
  simp only [Pg.ws,mem_cons,not_mem_nil,or_false] at hy
  rw [hy];omega
 | slot w s =>
  have h1:=h.2.2.1
  refine ⟨?_,fun y hy=>?_,by simp [Pg.ws]⟩
  ·rcases h.1 with rfl | rfl
   ·exact (show (Qa "back").length<=5 by decide +kernel)
   ·exact (show (Qa "copy").length<=5 by decide +kernel)
  ·simp only [Pg.ws,mem_cons,not_mem_nil,or_false] at hy
   rw [hy];omega
 | pass=>exact ⟨(show (Qa "pass").length<=5 by decide +kernel),fun y hy=>(nomatch hy),Qp _⟩
 | blk w ps =>
  refine ⟨?_,fun y hy=>(nomatch hy),Qp _⟩
  rcases h.1 with rfl | rfl
  ·exact (show (Qa "begin").length<=5 by decide +kernel)
  ·exact (show (Qa "late").length<=5 by decide +kernel)
 | inn s ps =>
  have h1:=h.1.2.1
  refine ⟨(show (Qa "in").length<=5 by decide +kernel),fun y hy=>?_,Mu (Qp _)⟩
  simp only [Pg.ws,mem_cons,not_mem_nil,or_false] at hy
  rw [hy];omega
theorem Zcp {x:Str}{xs:List V}(h:QO x Wc=some xs):xs.length<=3/\∀ v∈xs,Zgo v (.str "program")=true:=by
 have:∀ p∈Wc,p.2.length<=3/\∀ v∈p.2,Zgo v (.str "program")=true:=by decide +kernel
 have mem:∀ (D:List (Str×List V)),QO x D=some xs->∃ p∈D,p.2=xs:=by
  intro D
  induction D with
  | nil=>intro h;cases h
  | cons p D ih =>
   intro h
   rw [QO] at h
   split at h
   ·cases h;exact ⟨p,mem_cons_self,rfl⟩
   ·obtain ⟨q,hq,e⟩:=ih h;exact ⟨q,mem_cons_of_mem _ hq,e⟩
 obtain ⟨p,hp,rfl⟩:=mem _ h
 exact this p hp
theorem XC {H H':Hp}{d:Addr}{o:HO}(s:Same H H')(h:H d=none):Same H (upd H' d o):=fun b u q=>by rw [Zn (ZL q h)];exact s _ _ q
theorem VL {n:Nat}:∀ zs:List Str,(∀ y∈zs,y.length<=n)->(zs.map (·.length)).sum<=n * zs.length:=fun zs=>by
 induction zs with
 | nil=>intro _;simp
 | cons z r ih =>
  intro hz
  have h1:=hz z mem_cons_self
  have h2:=ih fun y hy=>hz y (mem_cons_of_mem _ hy)
  rw [map_cons,sum_cons,length_cons,Nat.mul_add];omega
section
variable {P:Qm}{w:QC}{K:Qb}{mg:Str->Option Qe}{base:Heap}
def ZkB (K:Qb):Sp:=fun vs H Q _=>∃(x:Str)(xs:List V),vs=[.str x]/\Xm x=some xs/\∀ l H',Same H H'->H l=none->H' l=some (.lst xs)->Q (.ref l) H'
abbrev nKR:List Str:=["word"]
abbrev Zhl:List Str:=["word"]
theorem scKR:ZB nKR Zhl (Zl s_kinds_in_row):=⟨rfl,rfl,rfl,by decide +kernel,rfl,by decide +kernel,by decide +kernel⟩
theorem ZpD {f:Addr}{fd:Qq}(F:Fun K "kinds_in_row" "kinds_in_row" s_kinds_in_row f fd)(T:Ya mg)(DKi:Def P w K mg base 1 "kinds_of" Zem (ZaX K)):FnOk P w K mg base Yc 2 f fd Zhl (ZkB K):=by
 refine F.ok scKR (fun vs H Q E h=>?_) (fun cdv A outer s H vs Q E hr h=>?_)
 ·obtain ⟨x,xs,rfl,_⟩:=h;rfl
 obtain ⟨x,xs,rfl,hx,q⟩:=h
 refine' ⟨?t,?h,?r⟩
 case h =>
  conv=>arg 2;whnf
  with_reducible refine' (Zh ?h1)
  case h1=>exact Zo (Zep (CompOk.of nKR s_kinds_in_row rfl rfl (by decide +kernel)) rfl (ZbO (Zu DKi hr (Zb (pv 0) Za))) (fun _ _ _ _ _=>ZA WK (pv 1) Zk (ZC _)) (fun _ _ _ _ _=>pv 1))
 refine ⟨_,rfl,x,rfl,fun b ys e1 e2=>?_,fun e=>by unfold Xm at hx;rw [e] at hx;cases hx⟩
 unfold Xm at hx
 rw [e1] at hx
 cases hx
 obtain ⟨hl,hs⟩:=Zcp e1
 refine ⟨b,rfl,⟨_,e2⟩,fun D hD=>?_⟩
 refine Zdo (K:=K) (xs:=ys) (Zp (show ys.length<=1000 by omega)) (fun i zs H'=>Same H H'/\H' D=some (.lst zs)/\i<=ys.length/\zs=(ys.take i).filter fun v=>!decide (v=.str "program")) ⟨Zg hD _,Ze,Qp _,rfl⟩ ?_ ?_ ?_
 ·rintro i zs H' ⟨s1,_,hi,rfl⟩
  refine ⟨?_,e2.tf s1.tf⟩
  have:=length_filter_le (fun v=>!decide (v=V.str "program")) (ys.take i)
  rw [length_take] at this;omega
 ·rintro i v zs H' hv ⟨s1,eD,hi,rfl⟩
  have hv2:=(Ql.mp hv).1
  refine ⟨_,rfl,hs v (mem_of_getElem? hv),_,rfl,?_⟩
  have et:ys.take (i+1)=ys.take i++[v]:=by rw [take_add_one,hv];rfl
  cases hc:decide (v=V.str "program") with
  | true=>exact Zw ⟨s1,eD,hv2,by rw [et,filter_append,filter_cons,hc];simp⟩
  | false=>exact Zx ⟨_,rfl,eD,fun b o e=>by rw [Zn (ZL e hD)];exact s1 _ _ e,Ze,hv2,by rw [et,filter_append,filter_cons,hc];simp⟩
 ·rintro zs H' ⟨s1,eD,_,rfl⟩
  rw [take_length] at eD
  exact q D H' s1 hD eD
def ZjB (K:Qb):Sp:=fun vs H Q _=>∃(v:V)(p:Pg),vs=[v]/\DatT K H v p.dat/\p.ok/\∀ H',Same H H'->Q (.str p.srow) H'
abbrev nSR:List Str:=["step","words","part","kind"]
abbrev Zhu:List Str:=["step"]
theorem scSR:ZB nSR Zhu (Zl s_step_row):=⟨rfl,rfl,rfl,by decide +kernel,rfl,by decide +kernel,by decide +kernel⟩
theorem ZpK {f:Addr}{fd:Qq}(F:Fun K "step_row" "step_row" s_step_row f fd)(T:Ya mg)(DVT:Def P w K mg base 2 "value_text" Zgt Zjs)(DKR:Def P w K mg base 2 "kinds_in_row" Zhl (ZkB K)):FnOk P w K mg base Yc 3 f fd Zhu (ZjB K):=by
 refine F.ok scSR (fun vs H Q E h=>?_) (fun cdv A outer s H vs Q E hr h=>?_)
 ·obtain ⟨v,p,rfl,_⟩:=h;rfl
 obtain ⟨v,p,rfl,hp,ho,q⟩:=h
 obtain ⟨a,xs,rfl,e,hxl,hk,hf⟩:=ZiQ hp ho
 obtain ⟨hw,hws,hwl⟩:=Zeu ho
 obtain ⟨hl1,hl2⟩:=hf.len
 refine' ⟨?t,?h,?r⟩
 case h =>
  conv=>arg 2;whnf
  with_reducible refine' (Zf ?h1 (Zf (XX ?h2 ?h3 ?h4 ?h5 (Zh ?h6) ?h7) (Zh ?h8)))
  case h1=>exact Zr (i:=1) scSR.nd rfl (Qy rfl) (ZH (Zb (ZG YI (pv 0) Zc (fun _ _=>rfl)) Za))
  case h2=>exact Ga
  case h3=>exact rfl
  case h4=>exact Zlh rfl T.zip (Zs Zox (pv 0) (Zv Zc) Zz) (Zu DKR hr (Zb (ZG YI (pv 0) Zc (fun _ _=>rfl)) Za))
  case h5=>exact Wb rfl (Ye (ZM (i:=2) scSR.nd rfl (Qy rfl)) (Ye (ZM (i:=3) scSR.nd rfl (Qy rfl)) Xw))
  case h6=>exact YW (ZU QG QR QS YG (pv 1) (Zb (Yv (ZA Xb (pv 3) Zk (ZC _)) (Zu DVT hr (Zb (pv 2) Za)) (pv 2)) Za))
  case h7=>exact fun _=>rfl
  case h8=>exact Zo (ZU Qo QT QU Xp Zk (Zb (pv 1) Za))
 refine ⟨_,rfl,a,_,_,_,rfl,rfl,e,ZF (j:=0) rfl,(by show 1<=Qi;decide),fun l hl=>?_⟩
 have s1:=Zg hl (.lst [.str p.word])
 refine ⟨_,rfl,1,rfl,a,_,rfl,e.tf s1.tf,?_,fun t ht=>?_⟩
 ·rintro ⟨h1,_⟩
  rw [show (1:Int)=((1:Nat):Int) from rfl,HT.sIx_nat,length_cons] at h1
  omega
 rw [show (1:Int)=((1:Nat):Int) from rfl,Zai,drop_succ_cons,drop_zero]
 have s2:=Zg ht (.tup xs)
 have e2:(upd (upd H l (.lst [.str p.word])) t (.tup xs)) t=some (.tup xs):=Ze
 have el2:=s2 _ _ (show (upd H l (.lst [.str p.word])) l=_ from Ze)
 have s12:=s1.trans s2
 generalize upd (upd H l (.lst [.str p.word])) t (.tup xs)=H2 at *
 refine ⟨_,rfl,a,_,_,_,rfl,rfl,e.tf s12.tf,ZF (j:=0) rfl,p.word,_,rfl,hk,fun k H3 s3 hk0 ek=>?_⟩
 refine ⟨t,k,xs,_,rfl,SqT.of (s3 _ _ e2),ek,?_⟩
 have hkl:k≠l:=GR (ZL el2 hk0)
 have el3:=s3 _ _ el2
 refine Zji (xs:=xs) (ys:=p.ks.map V.str) (by rw [length_map];exact hl1) (fun i σ H'=>∃ x2 x3,σ=[some (.ref a),some (.ref l),x2,x3]/\Same H H'/\H' l=some (.lst ((p.word::p.ws.take i).map V.str))/\H' t=some (.tup xs)/\H' k=some (.lst (p.ks.map V.str))) ⟨_,_,rfl,s12.trans s3,el3,s3 _ _ e2,ek⟩ (fun i σ H' _ ⟨_,_,_,_,_,e5,e6⟩=>⟨SqT.of e5,SqL.of e6⟩) ?_ ?_
 ·rintro i u kv tt σ H4 hu hkv htt ⟨x2,x3,rfl,s4,el4,et4,ek4⟩
  rw [getElem?_map] at hkv
  obtain ⟨kk,ekk,rfl⟩:=QD.mp hkv
  obtain ⟨u',y,eu,ey,hc⟩:=hf.at ekk
  rw [hu] at eu
  cases eu
  have s5:=Zg htt (.tup [u,.str kk])
  refine ⟨tt,_,rfl,SqT.of Ze,rfl,_,_,rfl,_,_,rfl,rfl,?_⟩
  have hlen:(p.ws.take i).length<=3:=by rw [length_take];omega
  have fin:∀ H6,H6=upd (upd H4 tt (.tup [u,.str kk])) l (.lst ((p.word::p.ws.take i).map V.str++[.str y]))->∃ x2 x3,([some (.ref a),some (.ref l),some u,some (.str kk)]:St)=[some (.ref a),some (.ref l),x2,x3]/\Same H H6/\H6 l=some (.lst ((p.word::p.ws.take (i+1)).map V.str))/\H6 t=some (.tup xs)/\H6 k=some (.lst (p.ks.map V.str)):=by
   rintro H6 rfl
   have el5:=s5 _ _ el4
   refine ⟨_,_,rfl,XC (s4.trans s5) hl,?_,?_,?_⟩
   ·rw [Ze,take_add_one,ey];simp
   ·rw [Zn (ZaQ (s5 _ _ et4) el5 (fun z=>nomatch z))];exact s5 _ _ et4
   ·rw [Zn hkl];exact s5 _ _ ek4
  have hsz:((p.word::p.ws.take i).map V.str).length < sizeLine:=Wq (show _<=1000 by rw [length_map,length_cons];omega)
  rcases hc with ⟨rfl,hv,rfl⟩ | ⟨hne,rfl⟩
  ·exact ⟨_,rfl,.inl ⟨rfl,_,SqL.of (s5 _ _ el4)⟩,_,rfl,rfl,_,rfl,Zx ⟨_,rfl,u,rfl,hv,l,_,_,rfl,rfl,s5 _ _ el4,hsz,fin _ rfl⟩⟩
  ·have hd:decide (V.str kk=V.str (Qa "value"))=false:=decide_eq_false fun z=>hne (by injection z)
   exact ⟨_,rfl,.inl ⟨rfl,_,SqL.of (s5 _ _ el4)⟩,_,rfl,rfl,_,rfl,VA hd ⟨_,rfl,l,_,_,rfl,rfl,s5 _ _ el4,hsz,fin _ rfl⟩⟩
 ·rintro σ H4 ⟨x2,x3,rfl,s4,el4,_,_⟩
  rw [length_map,<- hl2,take_length] at el4
  refine ⟨rfl,_,rfl," ",l,p.word::p.ws,rfl,rfl,SqL.of el4,?_,q H4 s4⟩
  have:=VL (n:=100) (p.word::p.ws) (fun y hy=>by rcases mem_cons.mp hy with rfl | hy;omega;exact hws y hy)
  rw [show (Qa " ").length=1 by decide +kernel]
  rw [length_cons] at this ⊢;omega
end
def UT (x:Str):Str:=Qa "  "++x
mutual
def rws:Pg->List Str
 | .blk w ps=>Pg.srow (.blk w ps)::(ZN ps).map UT
 | .inn s ps=>Pg.srow (.inn s ps)::(ZN ps).map UT
 | .set x v s=>[Pg.srow (.set x v s)]
 | .look x=>[Pg.srow (.look x)]
 | .slot w s=>[Pg.srow (.slot w s)]
 | .pass=>[Pg.srow .pass]
def ZN:List Pg->List Str
 | []=>[]
 | p::ps=>(rws p)++ZN ps
end
theorem Wd (p:Pg):rws p=p.srow::(ZN p.inner).map UT:=by
 cases p<;>simp [rws,Pg.inner,ZN]
theorem Zed:∀ ps qs:List Pg,ZN (ps++qs)=ZN ps++ZN qs
 | [],qs=>rfl
 | p::ps,qs=>by show (rws p)++ZN (ps++qs)=(rws p)++ZN ps++_;rw [Zed ps qs,append_assoc]
theorem ZdD {ps:List Pg}{i:Nat}{p:Pg}(h:ps[i]?=some p):ZN (ps.take (i+1))=ZN (ps.take i)++(p.srow::(ZN p.inner).map UT):=by
 rw [take_add_one,h,Zed,<- Wd]
 show _++((rws p)++[])=_;rw [append_nil]
mutual
theorem Zmo:∀ p:Pg,(rws p).length=p.many
 | .blk w ps=>by
  have:=Xg ps
  have h2:=Pg.many_eq (.blk w ps)
  rw [Wd,length_cons,length_map,h2];show (ZN ps).length+1=1+Pg.manys ps;omega
 | .inn s ps=>by
  have:=Xg ps
  have h2:=Pg.many_eq (.inn s ps)
  rw [Wd,length_cons,length_map,h2];show (ZN ps).length+1=1+Pg.manys ps;omega
 | .set x v s=>by rw [Pg.many_eq];rfl
 | .look x=>by rw [Pg.many_eq];rfl
 | .slot w s=>by rw [Pg.many_eq];rfl
 | .pass=>by rw [Pg.many_eq];rfl
theorem Xg:∀ ps:List Pg,(ZN ps).length=Pg.manys ps
 | []=>rfl
 | p::ps=>by
  have h1:=Zmo p
  have h2:=Xg ps
  show ((rws p)++ZN ps).length=p.many+Pg.manys ps
  rw [length_append,h1,h2]
end
theorem WY (s:Str):∀ zs:List Str,(Ge s zs).length<=(zs.map (·.length)).sum+zs.length * s.length
 | []=>by show 0<=_;omega
 | [z]=>by show z.length<=_;simp
 | p::q::r=>by
  have ih:=WY s (q::r)
  show (p++s++Ge s (q::r)).length<=_
  rw [Yy,Yy,map_cons,sum_cons,length_cons,Nat.add_mul];omega
theorem Xs {p:Pg}(h:p.ok):p.srow.length<=500:=by
 obtain ⟨h1,h2,h3⟩:=Zeu h
 have:=VL (n:=100) (p.word::p.ws) (fun y hy=>by rcases mem_cons.mp hy with rfl | hy;omega;exact h2 y hy)
 have j:=WY " " (p.word::p.ws)
 unfold Pg.srow
 rw [tj]
 rw [show (Qa " ").length=1 by decide +kernel] at j
 rw [length_cons] at this j
 omega
mutual
theorem Zmi:∀{p:Pg},p.ok->∀ r∈(rws p),r.length<=500+2 * p.hgt
 | .blk w ps,h,r,hr=>by
  rw [Wd] at hr
  rcases mem_cons.mp hr with rfl | hr
  ·have:=Xs h;omega
  ·obtain ⟨x,hx,rfl⟩:=SY.mp hr
   have:=WU h.2 x hx
   show (Qa "  "++x).length<=500+2 * (Pg.hgts ps+1)
   rw [Yy,show (Qa "  ").length=2 by decide +kernel];omega
 | .inn s ps,h,r,hr=>by
  rw [Wd] at hr
  rcases mem_cons.mp hr with rfl | hr
  ·have:=Xs h;omega
  ·obtain ⟨x,hx,rfl⟩:=SY.mp hr
   have:=WU h.2 x hx
   show (Qa "  "++x).length<=500+2 * (Pg.hgts ps+1)
   rw [Yy,show (Qa "  ").length=2 by decide +kernel];omega
 | .set x v s,h,r,hr=>by rw [Wd] at hr;rcases mem_cons.mp hr with rfl | hr;(have:=Xs h;omega);exact absurd hr (by simp [Pg.inner,ZN])
 | .look x,h,r,hr=>by rw [Wd] at hr;rcases mem_cons.mp hr with rfl | hr;(have:=Xs h;omega);exact absurd hr (by simp [Pg.inner,ZN])
 | .slot w s,h,r,hr=>by rw [Wd] at hr;rcases mem_cons.mp hr with rfl | hr;(have:=Xs h;omega);exact absurd hr (by simp [Pg.inner,ZN])
 | .pass,h,r,hr=>by rw [Wd] at hr;rcases mem_cons.mp hr with rfl | hr;(have:=Xs h;omega);exact absurd hr (by simp [Pg.inner,ZN])
theorem WU:∀{ps:List Pg},Pg.oks ps->∀ r∈ZN ps,r.length<=500+2 * Pg.hgts ps
 | [],_,r,hr=>(nomatch hr)
 | p::ps,h,r,hr=>by
  have e:Pg.hgts (p::ps)=max p.hgt (Pg.hgts ps):=rfl
  rcases mem_append.mp (show r∈(rws p)++ZN ps from hr) with hr | hr
  ·have:=Zmi h.1 r hr;omega
  ·have:=WU h.2 r hr;omega
end
section
variable {P:Qm}{w:QC}{K:Qb}{mg:Str->Option Qe}{base:Heap}{tk:Tok}
def ZkJ:Sp:=fun vs H Q _=>∃(l:Addr)(rs:List Str),vs=[.ref l]/\H l=some (.lst (rs.map V.str))/\rs.length<=1000/\(∀ r∈rs,r.length<=1000)/\∀ m H',Same H H'->H m=none->H' m=some (.lst ((rs.map UT).map V.str))->Q (.ref m) H'
abbrev nMI:List Str:=["rows"]
abbrev Zhi:List Str:=["rows"]
theorem scMI:ZB nMI Zhi (Zl s_moved_in):=⟨rfl,rfl,rfl,by decide +kernel,rfl,by decide +kernel,by decide +kernel⟩
theorem Zpk {f:Addr}{fd:Qq}(F:Fun K "moved_in" "moved_in" s_moved_in f fd)(hFI:mg "FURTHER_IN"=some (.str "  " tk)):FnOk P w K mg base Yc 1 f fd Zhi ZkJ:=by
 refine F.ok scMI (fun vs H Q E h=>?_) (fun cdv A outer s H vs Q E hr h=>?_)
 ·obtain ⟨l,rs,rfl,_⟩:=h;rfl
 obtain ⟨l,rs,rfl,el,hl,hb,q⟩:=h
 refine' ⟨?t,?h,?r⟩
 case h =>
  conv=>arg 2;whnf
  with_reducible refine' (Zh ?h1)
  case h1=>exact Zo (XM (CompOk.of nMI s_moved_in rfl rfl (by decide +kernel)) rfl (ZcO (pv 0))  (fun _ _ _ _ _=>Zj ZJ (YS rfl hFI (v:=.str "  ") ⟨_,rfl⟩) (pv 1)))
 refine ⟨_,rfl,l,rfl,⟨_,SqL.of el⟩,fun D hD=>?_⟩
 refine Zib (K:=K) (xs:=rs.map V.str) (Zp (show _<=1000 by rw [length_map];omega)) (fun i ys H'=>Same H H'/\H' D=some (.lst ys)/\ys=((rs.take i).map UT).map V.str/\i<=rs.length) ⟨Zg hD _,Ze,rfl,Qp _⟩ ?_ ?_ ?_
 ·rintro i ys H' ⟨s1,_,rfl,hi⟩
  exact ⟨by rw [length_map,length_map,length_take];omega,SqL.of (s1 _ _ el)⟩
 ·rintro i v ys H' hv ⟨s1,eD,rfl,hi⟩
  rw [getElem?_map] at hv
  obtain ⟨r,er,rfl⟩:=QD.mp hv
  have hrl:=hb r (mem_of_getElem? er)
  refine ⟨_,rfl,_,_,rfl,rfl,Zp (show _<=2000 by rw [show (Qa "  ").length=2 by decide +kernel];omega),eD,fun b o e=>?_,Ze,?_,(Ql.mp er).1⟩
  ·rw [Zn (ZL e hD)];exact s1 _ _ e
  ·rw [List.take_succ,er,map_append,map_append];rfl
 ·rintro ys H2 ⟨s2,eD,rfl,_⟩
  rw [length_map,take_length] at eD
  exact q D H2 s2 hD eD
def ZeZ (K:Qb)(n:Nat):Sp:=fun vs H Q _=>∃(v:V)(ps:List Pg),vs=[v]/\DatT K H v (.tuple (Pg.dats ps))/\Pg.oks ps/\Pg.rk ps<=n/\Pg.hgts ps<=100/\Pg.manys ps<=1000/\∀ l H',Same H H'->H l=none->H' l=some (.lst ((ZN ps).map V.str))->Q (.ref l) H'
abbrev nPR:List Str:=["program","rows","step"]
abbrev Zbo:List Str:=["program"]
theorem scPR:ZB nPR Zbo (Zl s_program_rows):=⟨rfl,rfl,rfl,by decide +kernel,rfl,by decide +kernel,by decide +kernel⟩
theorem ZhJ {f:Addr}{fd:Qq}{n k:Nat}(F:Fun K "program_rows" "program_rows" s_program_rows f fd)(T:Ya mg)(DPw:Def P w K mg base k "program_within" Zgx (ZbI K))(DSR:Def P w K mg base k "step_row" Zhu (ZjB K))(DMI:Def P w K mg base k "moved_in" Zhi ZkJ)(DPR:Def P w K mg base k "program_rows" Zbo (fun vs H Q E=>∃ m,m < n/\ZeZ K m vs H Q E)):FnOk P w K mg base Yc (k+1) f fd Zbo (ZeZ K n):=by
 refine F.ok scPR (fun vs H Q E h=>?_) (fun cdv A outer s H vs Q E hr h=>?_)
 ·obtain ⟨v,ps,rfl,_⟩:=h;rfl
 obtain ⟨v,ps,rfl,hp,ho,hn,hh,hm,q⟩:=h
 obtain ⟨a,xs,rfl,e,hd⟩:=DatT.tupI hp
 have hl:=hd.pgs
 refine' ⟨?t,?h,?r⟩
 case h =>
  conv=>arg 2;whnf
  with_reducible refine' (Zf ?h1 (Zf (XX ?h2 ?h3 ?h4 ?h5 (Zf ?h6 (Zh ?h7)) ?h8) (Zh ?h9)))
  case h1=>exact Zr (i:=1) scPR.nd rfl (Qy rfl) (ZH Za)
  case h2=>exact Ga
  case h3=>exact rfl
  case h4=>exact ZbO (pv 0)
  case h5=>exact ZM (i:=2) scPR.nd rfl (Qy rfl)
  case h6=>exact YW (ZU QG QR QS YG (pv 1) (Zb (Zu DSR hr (Zb (pv 2) Za)) Za))
  case h7=>exact YW (ZU QG RM RN Zdw (pv 1) (Zb (Zu DMI hr (Zb (Zu DPR hr (Zb (Zu DPw hr (Zb (pv 2) Za)) Za)) Za)) Za))
  case h8=>exact fun _=>rfl
  case h9=>exact Zo (pv 1)
 have hlm:=Pg.len_manys ps
 refine ⟨(by show 0<=Qi;decide),fun l hl0=>?_⟩
 refine ⟨_,rfl,a,rfl,⟨_,e.tf (Zg hl0 _).tf⟩,?_⟩
 refine ZfU (xs:=xs) (fun i σ H'=>∃ x2,σ=[some (.ref a),some (.ref l),x2]/\Same H H'/\H' l=some (.lst ((ZN (ps.take i)).map V.str))) ⟨_,rfl,Zg hl0 _,by rw [take_zero];exact Ze⟩ (fun i σ H' _ ⟨_,_,s',_⟩=>e.tf s'.tf) ?_ ?_
 ·rintro i v σ H' hv ⟨x2,rfl,s',el⟩
  obtain ⟨p,ep,dp⟩:=hd.pg hv
  have hop:=Pg.oks_at ho ep
  have hml:=Pg.manys_le (ps:=ps) i
  have hml1:=Pg.manys_le (ps:=ps) (i+1)
  have hmt:=Pg.manys_take ep
  have hmp:=Pg.inner_many (p:=p)
  have hlr:=Xg (ps.take i)
  have hli:=Xg p.inner
  have hhp:=Pg.hgts_at ep
  have hhi:Pg.hgts p.inner<=100:=Pg.inner_hgt (n:=100) (by omega)
  refine ⟨_,rfl,.inl ⟨rfl,_,SqL.of el⟩,_,rfl,v,p,rfl,dp.same s',hop,fun H1 s1=>?_⟩
  refine ⟨l,_,_,rfl,rfl,s1 _ _ el,Wq (show _<=1000 by rw [length_map];omega),?_⟩
  have el1:upd H1 l (.lst ((ZN (ps.take i)).map V.str++[.str p.srow])) l=some (.lst ((ZN (ps.take i)).map V.str++[.str p.srow])):=Ze
  have s2:Same H (upd H1 l (.lst ((ZN (ps.take i)).map V.str++[.str p.srow]))):=XC (s'.trans s1) hl0
  generalize upd H1 l (.lst ((ZN (ps.take i)).map V.str++[.str p.srow]))=H2 at *
  refine ⟨_,rfl,.inl ⟨rfl,_,SqL.of el1⟩,_,rfl,v,p,rfl,dp.same s2,hop,fun t H3 s3 dt=>?_⟩
  refine ⟨Pg.rk p.inner,QB (Pg.rk_at ep) hn,t,p.inner,rfl,dt,Pg.inner_ok hop,Qh _,hhi,by omega,fun m H4 s4 hm0 em=>?_⟩
  refine ⟨m,ZN p.inner,rfl,em,by omega,fun r hr=>by have:=WU (Pg.inner_ok hop) r hr;omega,fun m2 H5 s5 hm2 em2=>?_⟩
  have el5:=((s3.trans s4).trans s5) _ _ el1
  refine ⟨l,m2,_,_,rfl,rfl,el5,em2,Zp (show _<=5000 by rw [length_append,length_map,length_map,length_map,length_singleton];omega),?_⟩
  refine ⟨_,rfl,XC (((s2.trans s3).trans s4).trans s5) hl0,?_⟩
  rw [Ze,ZdD ep];simp
 ·rintro σ H' ⟨x2,rfl,s',el⟩
  rw [hl,take_length] at el
  exact ⟨_,rfl,q l H' s' hl0 el⟩
theorem ZlJ {f:Addr}{fd:Qq}(F:Fun K "program_rows" "program_rows" s_program_rows f fd)(T:Ya mg)(b:Binds K fd Zbo [])(kp:Gk K (.ref f)=true)(m:mg "program_rows"=some (.ref f))(DPw:Def P w K mg base 3 "program_within" Zgx (ZbI K))(DSR:Def P w K mg base 3 "step_row" Zhu (ZjB K))(DMI:Def P w K mg base 3 "moved_in" Zhi ZkJ):∀ n,FnOk P w K mg base Yc (4+n) f fd Zbo (ZeZ K n)
 | 0=>ZhJ F T DPw DSR DMI ⟨_,_,⟨fun vs H Q E ⟨_,h,_⟩=>absurd h (Gv _),fun _ _ _ _ _ _ _ _ _ _ _ _ _ ⟨_,h,_⟩=>absurd h (Gv _)⟩,b,kp,m⟩
 | n+1=>ZhJ F T (DPw.mono (show 3<=4+n by omega)) (DSR.mono (show 3<=4+n by omega)) (DMI.mono (show 3<=4+n by omega)) ⟨_,_,(ZlJ F T b kp m DPw DSR DMI n).imp fun vs H Q E ⟨j,h,v,ps,a1,a2,a3,a4,a5⟩=>⟨v,ps,a1,a2,a3,by omega,a5⟩,b,kp,m⟩
def Vp (ps:List Pg):Str:=QM "\n" (ZN ps)
def spPT (K:Qb)(n:Nat):Sp:=fun vs H Q _=>∃(v:V)(ps:List Pg),vs=[v]/\DatT K H v (.tuple (Pg.dats ps))/\Pg.oks ps/\Pg.rk ps<=n/\Pg.hgts ps<=100/\Pg.manys ps<=1000/\∀ H',Same H H'->Q (.str (Vp ps)) H'
theorem Zbz {ps:List Pg}(ho:Pg.oks ps)(hh:Pg.hgts ps<=100)(hm:Pg.manys ps<=1000):((ZN ps).map (·.length)).sum+(ZN ps).length * (Qa "\n").length<=16777216:=by
 have h1:=VL (n:=1000) (ZN ps) (fun y hy=>by have:=WU ho y hy;omega)
 rw [Xg] at h1 ⊢
 rw [show (Qa "\n").length=1 by decide +kernel];omega
abbrev nPT:List Str:=["program"]
abbrev ZjQ:List Str:=["program"]
theorem scPT:ZB nPT ZjQ (Zl s_program_text):=⟨rfl,rfl,rfl,by decide +kernel,rfl,by decide +kernel,by decide +kernel⟩
theorem Zpt {f:Addr}{fd:Qq}{n k:Nat}(F:Fun K "program_text" "program_text" s_program_text f fd)(T:Ya mg)(DPR:Def P w K mg base k "program_rows" Zbo (ZeZ K n)):FnOk P w K mg base Yc (k+1) f fd ZjQ (spPT K n):=by
 refine F.ok scPT (fun vs H Q E h=>?_) (fun cdv A outer s H vs Q E hr h=>?_)
 ·obtain ⟨v,ps,rfl,_⟩:=h;rfl
 obtain ⟨v,ps,rfl,hp,ho,hn,hh,hm,q⟩:=h
 refine' ⟨?t,?h,?r⟩
 case h =>
  conv=>arg 2;whnf
  with_reducible refine' (Zh ?h1)
  case h1=>exact Zo (ZU Qo QT QU Xp Zk (Zb (Zu DPR hr (Zb (pv 0) Za)) Za))
 exact ⟨rfl,_,rfl,v,ps,rfl,hp,ho,hn,hh,hm,fun l H' s' hl0 el=>⟨"\n",l,ZN ps,rfl,rfl,SqL.of el,Zbz ho hh hm,q H' s'⟩⟩
end
end K69
namespace L2
open PySem PySem.W PySem.Spec PyProof.Rows
theorem Zdb:∀(k:Nat)(ps:List Str),Vals (ps.map V.str) (strsFrom k ps)
 | _,[]=>.nil
 | k,p::r=>.cons ⟨k,rfl⟩ (Zdb (k+1) r)
section
variable {X:Cx}
theorem ZiK (z y:Str):(QF z y).length<=z.length+2:=PyProof.Rows.split_le z y
theorem Wn:MtR X "str.split" (fun x xs H Q=>∃ z y,x=.str z/\xs=[.str y]/\1<=y.length/\z.length<=1000000/\∀ l,H l=none->Q (.ref l) (upd H l (.lst ((QF z y).map V.str)))):=by
 intro pins s σ H x xs v us Q I rx rv h
 obtain ⟨z,y,rfl,rfl,hy,hz,q⟩:=h
 obtain ⟨t,rfl⟩:=rx
 obtain ⟨u,rfl,t',rfl⟩:=YU rv
 have q:=q _ I.fresh
 have few:=ZiK z y
 have hy0:(y.length == 0)=false:=by simpa using GY hy
 have hs:z.length<=sizeLine:=by rw [GV];omega
 have lay:∀ (vs:List Qe) (tk:Nat),Vals ((QF z y).map V.str) vs->EP X pins σ Q (.ref s.heap.objs.size) { s with heap:=s.heap.push { cls:=.type "list",data:=.seq vs.toArray },toks:=tk }:=fun vs tk r =>
  ⟨.ref s.heap.objs.size,_,I.laid (t':=tk) (fun b o e=>Qf _ e) (Qh _) (show ObjOk X.prog X.w _ _ _ (.lst ((QF z y).map V.str)) from ⟨by rw [length_map,GV];omega,vs,0,r,Qn _ rfl⟩),rfl,q⟩
 cases h1:(decide (z.length < y.length) || decide (Nl z < Nl y)) with
 | true =>
  have e:QF z y=[z]:=if_pos h1
  exact Sl QX (Sk _ _ _) RD (Ru _ _) (meets_str_split_cannot_occur z y t t' h1) (lay [.str z t] s.toks (by rw [e];exact .cons ⟨_,rfl⟩ .nil))
 | false =>
  cases hf:(RZ z y 0 z.length (z.length+1)).isEmpty with
  | true =>
   have e:QF z y=[z]:=(if_neg (by rw [h1];decide)).trans (if_pos hf)
   exact Sl QX (Sk _ _ _) RD (Ru _ _) (meets_str_split_not_found z y t t' h1 hy0 hf) (lay [.str z t] s.toks (by rw [e];exact .cons ⟨_,rfl⟩ .nil))
  | false =>
   have e:QF z y=Builtin.Str.partsBetween z (RZ z y 0 z.length (z.length+1)) y.length:=(if_neg (by rw [h1];decide)).trans (if_neg (by rw [hf];decide))
   rw [e] at lay few
   exact Sl QX (Sk _ _ _) RD (Ru _ _) (meets_str_split_sep z y t t' h1 hy0 hf hs (by rw [GV];omega)) (lay _ _ (Zdb _ _))
theorem Zan:MtR X "str.startswith" (fun x xs H Q=>∃ z y,x=.str z/\xs=[.str y]/\Q (.bl (Txt.startswith z y)) H):=by
 intro pins s σ H x xs v us Q I rx rv h
 obtain ⟨z,y,rfl,rfl,q⟩:=h
 obtain ⟨t,rfl⟩:=rx
 obtain ⟨u,rfl,t',rfl⟩:=YU rv
 exact SC.startswith ⟨.bl _,H,I,rfl,q⟩
theorem Vq:MtR X "str.lstrip" (fun x xs H Q=>∃ z y,x=.str z/\xs=[.str y]/\z.length<=1000000/\Q (.str (QW z y)) H):=by
 intro pins s σ H x xs v us Q I rx rv h
 obtain ⟨z,y,rfl,rfl,hz,q⟩:=h
 obtain ⟨t,rfl⟩:=rx
 obtain ⟨u,rfl,t',rfl⟩:=YU rv
 exact SC.lstripChars (fun t1 k=>⟨.str _,H,I.tok k,⟨_,rfl⟩,q⟩) (by rw [GV];omega)
def Zpm (K:Qb)(ga gb:TG):TG:=fun v σ H Q=>∃ l x xs,v=.ref l/\SqL K H l (x::xs)/\xs.length<=1000000/\∀ D,H D=none->ga x σ (upd H D (.lst xs)) fun σ1 H1=>gb (.ref D) σ1 H1 Q
theorem ZmY {a b:Expr}{k:Nat}{p pos:Pos}{ga gb:TG}(hc:X.calm=true)(ha:PG X a ga)(hb:PG X b gb)(hn:(Sh [a,.Starred b p] X.env)=[(false,Pk a X.env),(true,Pk b X.env)]:=by rfl):PG X (.Tuple [a,.Starred b p] k pos) (Zpm X.K ga gb):=by
 intro pins s σ H v u Q I r hw
 obtain ⟨l,x,xs,rfl,hq,hz,hw⟩:=hw
 cases r
 obtain ⟨its,rv,pl,_⟩:=I.list hq
 cases rv with
 | @cons _ u0 _ us r0 rr =>
 have hl:=pl.isList
 have hne:l≠s.heap.objs.size:=by obtain ⟨o,ho,_⟩:=hl;exact Qt (Qj ho)
 have hlen:us.length=xs.length:=rr.length.symm
 have hh:=I.ok.hd hc
 rw [assign_Tuple]
 refine Qd (GC ?_)
 unfold unpack
 rw [hn]
 refine Qd (GI ?_)
 show Qr _ _ (OM (.ref l) 2 (some 1)) _ _ s
 unfold OM
 refine Qd ?_
 unfold notIterableAtAll
 refine Qd (wpAny_specialOf hl.typeIs slot_list_iter.lookup (Qk ?_))
 simp only [JZ,if_false]
 refine Qd (GI (Jv hl ?_))
 refine Qd (GI (kun_draw hne 1 0 _ _ ⟨_,Qn _ rfl,rfl,rfl⟩ (hl.push _) (by simp) fun h1 it1 sb1=>?_))
 have hl1:h1.IsList l (u0::us).toArray:=(hl.push _).extBut sb1.extBut hne
 have e1:List.take 1 (List.drop 0 (u0::us).toArray.toList)=[u0]:=rfl
 rw [e1,if_neg (show ¬ ([u0].length < 1) from JG 1)]
 obtain ⟨oi,hoi,_⟩:=id it1
 obtain ⟨ol,hol,_⟩:=id hl1
 refine Qd (GI (kun_collect (s:={ s with heap:=h1 }) (T:="list_iterator") (.inr (.inr (.inl rfl))) (Walks.list (A:=X.A.in1) hh s.heap.objs.size l hne (u0::us).toArray) (fun j u st=>st.1.typeIs) (k:=1) (by simp) ⟨it1,hl1⟩ (Qj hoi) (Qj hol) (fun h2 tk kp=>?_) (by rw [GV,size_toArray,length_cons];omega)))
 have e2:List.drop 1 (u0::us).toArray.toList=us:=rfl
 rw [e2]
 simp only [Nat.reduceSub,Gv,if_false,SX,take_length,Oa]
 have kp2:∀ b o,s.heap.get? b=some o->h2.get? b=some o:=fun b o e=>kp b o (Qt (Qj e)) (sb1.extBut b o (Qt (Qj e)) (Qf _ e))
 refine Qd (wpAny_newList (Qk ?_) (by rw [GV];omega))
 have I2:Inv X pins σ H { s with heap:=h2,toks:=tk }:=I.kept kp2
 have I3:Inv X pins σ (upd H h2.objs.size (.lst xs)) { s with heap:=h2.push { cls:=.type "list",data:=.seq us.toArray },toks:=tk } :=
  I2.laid (t':=tk) (fun b o e=>Qf _ e) (Qh _) (show ObjOk X.prog X.w _ _ _ (.lst xs) from ⟨by rw [GV];omega,us,0,rr,Qn _ rfl⟩)
 show Qr _ _ (PU [Pk a X.env,Pk b X.env] [u0,.ref h2.objs.size]) _ _ _
 refine GM (Zt (ha pins _ σ _ _ _ _ I3 r0 (hw _ I2.fresh)) fun _ s1 ⟨σ1,H1,I4,q1⟩=>?_)
 refine GM (Zt (hb pins s1 σ1 H1 (.ref h2.objs.size) _ _ I4 rfl q1) fun _ s2 ⟨σ2,H2,I5,q2⟩=>?_)
 exact Tr ⟨σ2,H2,I5,q2⟩
end
end L2
namespace L2
open PySem PySem.Spec PyProof.Rows
theorem Zfy {c:Nat}:∀{a b r s:List Nat},c ∉ a->c ∉ b->a++c::r=b++c::s->a=b/\r=s
 | [],[],_,_,_,_,h=>⟨rfl,by injection h⟩
 | [],y::b,_,_,_,hb,h=>by injection h with h1 h2;exact absurd (h1 ▸ mem_cons_self ..) hb
 | x::a,[],_,_,ha,_,h=>by injection h with h1 h2;exact absurd (h1 ▸ mem_cons_self ..) ha
 | x::a,y::b,_,_,ha,hb,h=>by
  injection h with h1 h2
  obtain ⟨e1,e2⟩:=Zfy (fun m=>ha (mem_cons_of_mem _ m)) (fun m=>hb (mem_cons_of_mem _ m)) h2
  exact ⟨by rw [h1,e1],e2⟩
theorem Yf (c:Nat)(a b:Str)(r:List Str):(Ge ⟨#[c]⟩ (a::b::r)).cps.toList=a.cps.toList++c::(Ge ⟨#[c]⟩ (b::r)).cps.toList:=by
 show (a++⟨#[c]⟩++Ge ⟨#[c]⟩ (b::r)).cps.toList=_
 rw [Xl,Xl,append_assoc];rfl
theorem Zec {c:Nat}:∀{A B:List Str},A≠[]->B≠[]->(∀ p∈A,c ∉ p.cps.toList)->(∀ p∈B,c ∉ p.cps.toList)->Ge ⟨#[c]⟩ A=Ge ⟨#[c]⟩ B->A=B
 | [],_,h,_,_,_,_=>absurd rfl h
 | _,[],_,h,_,_,_=>absurd rfl h
 | [a],[b],_,_,_,_,h=>by have:a=b:=h;rw [this]
 | [a],b::b2::B,_,_,ha,_,h=>by
  have e:=congrArg (fun s:Str=>s.cps.toList) h
  have e:a.cps.toList=_:=e
  rw [Yf] at e
  exact absurd (by rw [e];exact mem_append_right _ (mem_cons_self ..)) (ha a (mem_cons_self ..))
 | a::a2::A,[b],_,_,_,hb,h=>by
  have e:=congrArg (fun s:Str=>s.cps.toList) h.symm
  have e:b.cps.toList=_:=e
  rw [Yf] at e
  exact absurd (by rw [e];exact mem_append_right _ (mem_cons_self ..)) (hb b (mem_cons_self ..))
 | a::a2::A,b::b2::B,_,_,ha,hb,h=>by
  have e:=congrArg (fun s:Str=>s.cps.toList) h
  have e:(Ge ⟨#[c]⟩ (a::a2::A)).cps.toList=(Ge ⟨#[c]⟩ (b::b2::B)).cps.toList:=e
  rw [Yf,Yf] at e
  obtain ⟨e1,e2⟩:=Zfy (ha a (mem_cons_self ..)) (hb b (mem_cons_self ..)) e
  rw [ZZ e1,Zec (A:=a2::A) (B:=b2::B) (by simp) (by simp) (fun p hp=>ha p (mem_cons_of_mem _ hp)) (fun p hp=>hb p (mem_cons_of_mem _ hp)) (ZZ e2)]
theorem XB (x y:Str):QF x y≠[]:=fun e=>by have:=split_pos x y;rw [e] at this;simp at this
theorem VX {c:Nat}{L:List Str}(h:L≠[])(hf:∀ p∈L,c ∉ p.cps.toList):QF (Ge ⟨#[c]⟩ L) ⟨#[c]⟩=L :=
 Zec (XB _ _) h (Tj _ c) hf (GB _ _)
theorem Ut {c:Nat}:∀{A B:List Str},A≠[]->B≠[]->Ge ⟨#[c]⟩ (A++B)=Ge ⟨#[c]⟩ A++⟨#[c]⟩++Ge ⟨#[c]⟩ B
 | [],_,h,_=>absurd rfl h
 | [a],b::B,_,_=>rfl
 | _,[],_,h=>absurd rfl h
 | a::a2::A,b::B,_,_=>by
  apply ZZ
  have ih:=Ut (c:=c) (A:=a2::A) (B:=b::B) (by simp) (by simp)
  show (Ge ⟨#[c]⟩ (a::a2::(A++b::B))).cps.toList=_
  rw [Yf,show a2::(A++b::B)=(a2::A)++b::B from rfl,ih]
  simp only [Xl,Yf,append_assoc];rfl
theorem ZdH {c:Nat}:∀{A:List Str},Ge ⟨#[c]⟩ (A.flatMap fun w=>QF w ⟨#[c]⟩)=Ge ⟨#[c]⟩ A
 | []=>rfl
 | [a]=>by show Ge _ (QF a _++[])=a;rw [append_nil];exact GB _ _
 | a::b::A=>by
  have ih:=ZdH (c:=c) (A:=b::A)
  have ne:(b::A).flatMap (fun w=>QF w ⟨#[c]⟩)≠[]:=fun e=>XB b ⟨#[c]⟩ (Ow.mp e).1
  rw [flatMap_cons,Ut (XB _ _) ne,ih,GB];rfl
theorem Zfo {c:Nat}{A:List Str}(h:A≠[]):QF (Ge ⟨#[c]⟩ A) ⟨#[c]⟩=A.flatMap fun w=>QF w ⟨#[c]⟩:=by
 have ne:A.flatMap (fun w=>QF w ⟨#[c]⟩)≠[]:=by
  cases A with
  | nil=>exact absurd rfl h
  | cons a A=>exact fun e=>XB a ⟨#[c]⟩ (Ow.mp e).1
 rw [<- ZdH,VX ne]
 intro p hp
 obtain ⟨w,_,hw⟩:=List.mem_flatMap.mp hp
 exact Tj w c p hw
theorem Zau {c:Nat}{x:Str}(h:c ∉ x.cps.toList):QF x ⟨#[c]⟩=[x]:=by
 have:=VX (c:=c) (L:=[x]) (by simp) (by simpa using h);exact this
theorem ZfM (p:Nat->Bool):∀ l:List Nat,l.drop (l.takeWhile p).length=l.dropWhile p
 | []=>rfl
 | a::r=>by
  rw [PR,dropWhile_cons]
  split
  ·rw [length_cons,drop_succ_cons];exact ZfM p r
  ·rfl
theorem Ww (x y:Str):(QW x y).cps.toList=x.cps.toList.dropWhile fun k=>y.cps.contains k:=by
 have e:=stripBy_eq y.cps.contains true false x
 show (Txt.stripBy y.cps.contains true false x).cps.toList=_
 rw [e]
 show (x.cps.extract (x.cps.toList.takeWhile y.cps.contains).length x.length).toList=_
 rw [SA,PN,<- ZfM]
 apply take_of_length_le
 rw [length_drop,Zq];exact Qh _
theorem Uq:(Qa " ")=⟨#[32]⟩:=by decide +kernel
theorem lf1:(Qa "\n")=⟨#[10]⟩:=by decide +kernel
theorem qu1:(Qa "'")=⟨#[39]⟩:=by decide +kernel
theorem mi1:(Qa "-")=⟨#[45]⟩:=by decide +kernel
theorem sl1:(Qa "\\")=⟨#[92]⟩:=by decide +kernel
theorem Zct (x:Str)(c:Nat):Txt.startswith x ⟨#[c]⟩=decide (x.cps.toList.head?=some c):=by
 show (decide (0+1<=x.length)&&(x.cps.extract 0 (0+1) == #[c]))=_
 rw [Jc,decide_eq_true_eq,QL,decide_eq_true_eq,beq_iff_eq,Zq]
 have e:x.cps.extract 0 (0+1)=#[c]↔x.cps.toList.take 1=[c]:=by
  constructor
  ·intro h
   have:=congrArg NK h
   simpa [SA,PN] using this
  ·intro h
   apply Array.toList_inj.mp
   simpa [SA,PN] using h
 rw [e]
 cases x.cps.toList with
 | nil=>simp
 | cons a r=>simp
def WD:Bool->List Nat->List Nat
 | _,[]=>[]
 | b,k::r=>if (decide (k=92)&&!b)=true then WD true r else k::WD false r
theorem ZfO:∀ l:List Nat,WD false (YN l)=l
 | []=>rfl
 | k :: r=>by
  have ih:=ZfO r
  have e:YN (k::r)=(if k=39\/k=92 then [92,k] else [k])++YN r:=rfl
  rw [e]
  by_cases h:k=39\/k=92
  ·rw [if_pos h]
   show WD false (92::k::YN r)=_
   rw [WD,if_pos (by decide),WD,if_neg (by simp),ih]
  ·rw [if_neg h]
   show WD false (k::YN r)=_
   rw [WD,if_neg (by simp;intro z;exact h (.inr z)),ih]
theorem ZcT:∀(b:Bool)(l:List Nat),(WD b l).length<=l.length
 | _,[]=>Qh _
 | b,k::r=>by
  rw [WD]
  split
  ·exact Qw (ZcT _ r) (JV _)
  ·rw [length_cons,length_cons];exact Mu (ZcT _ r)
def XR (c:Nat):Bool:=decide (48<=c)&&decide (c<=57)
def Yu (w:Str):List Nat:=if w.cps.toList.head?=some 45 then w.cps.toList.drop 1 else w.cps.toList
def Xu (w:Str)(most:Nat):Option Int :=
 if 1<=(Yu w).length/\(Yu w).length<=most/\(Yu w).all XR=true then (if Qa (Gn ((Pr w).getD 0))=w then some ((Pr w).getD 0) else none) else none
theorem Wi {l:List Nat}(h:l.all XR=true):TV l:=fun c hc=>by
 have:=all_eq_true.mp h c hc
 unfold XR at this
 simpa using this
theorem Zhe:∀(cs:List Nat)(acc:Nat),TV cs->cs.foldl (fun a c=>a * 10+(c - 48)) acc < (acc+1) * 10 ^ cs.length
 | [],acc,_=>by simp
 | c::cs,acc,h=>by
  have ih:=Zhe cs (acc * 10+(c - 48)) h.tail
  have hc:=h.head
  rw [SK,length_cons,Nat.pow_succ]
  refine QB ih ?_
  rw [Nat.mul_comm (10 ^ cs.length) 10,<- Nat.mul_assoc]
  exact OV _ (by omega)
theorem Zjl {cs:List Nat}(h:TV cs)(hl:cs.length<=300):(TM cs).log2 < 1920:=by
 by_cases h0:TM cs=0
 ·rw [h0];decide
 ·refine (Mz h0).mpr (QB (Zhe cs 0 h) ?_)
  rw [Ma,Nat.one_mul]
  exact Qw (Sz (by decide) hl) (by decide +kernel)
theorem Zcj {w:Str}(h1:1<=(Yu w).length)(h2:(Yu w).length<=300)(h3:(Yu w).all XR=true):∃ n,Pr w=some n/\w.length<=640/\n.natAbs.log2 < 1920:=by
 unfold Yu at h1 h2 h3
 have hl:w.length=w.cps.toList.length:=Zq w
 split at h1
 ·rename_i hh
  rw [if_pos hh] at h2 h3
  cases e:w.cps.toList with
  | nil=>rw [e] at hh;cases hh
  | cons a r =>
   rw [e] at hh h1 h2 h3 hl
   cases hh
   have hl:w.length=r.length+1:=hl
   simp only [drop_succ_cons,drop_zero] at h1 h2 h3
   exact ⟨_,RE e (Wi h3) (by rintro rfl;simp at h1) (by omega),by omega,by rw [Int.natAbs_neg,Tk];exact Zjl (Wi h3) h2⟩
 ·rename_i hh
  rw [if_neg hh] at h2 h3
  exact ⟨_,SD (Wi h3) (by intro z;rw [z] at h1;simp at h1) (by omega),by omega,by rw [Tk];exact Zjl (Wi h3) h2⟩
theorem ZaZ (m:Nat):(Vt m).all XR=true:=all_eq_true.mpr fun c hc=>by have:=Zco hc;unfold XR;simp;omega
theorem Zge (m:Nat):1<=(Vt m).length:=by
 cases e:Vt m with
 | nil =>
  have z:Nat.toDigits 10 m=[]:=List.map_eq_nil_iff.mp e
  exact absurd z Nat.toDigits_ne_nil
 | cons a r=>simp
theorem ZbL {i:Int}(h:i.natAbs < 10 ^ 30):1<=(Yu (Qa (Gn i))).length/\(Yu (Qa (Gn i))).length<=30/\(Yu (Qa (Gn i))).all XR=true/\Pr (Qa (Gn i))=some i:=by
 have hl:(Qa (Gn i)).length=(Qa (Gn i)).cps.toList.length:=Zq _
 obtain ⟨m,⟨e,rfl⟩ | ⟨e,rfl⟩⟩:=Zdx i
 ·have hm:(Vt m).length<=30:=Zfr (k:=29) (by omega)
  have hp:=Zge m
  have hh:¬ (Vt m).head?=some 45:=fun z=>by
   cases ed:Vt m with
   | nil=>rw [ed] at z;cases z
   | cons a r=>rw [ed] at z;cases z;have:=Zco (m:=m) (c:=45) (by rw [ed];exact mem_cons_self ..);omega
  unfold Yu
  rw [e,if_neg hh]
  rw [e] at hl
  refine ⟨hp,hm,ZaZ m,?_⟩
  rw [SD (by rw [e];exact Wi (ZaZ m)) (by rw [e];intro z;rw [z] at hp;simp at hp) (by omega),e,ZfC]
 ·have hm:(Vt m).length<=30:=Zfr (k:=29) (by omega)
  have hp:=Zge m
  unfold Yu
  rw [e] at hl ⊢
  rw [if_pos (show (45::Vt m).head?=some 45 from rfl)]
  simp only [drop_succ_cons,drop_zero]
  refine ⟨hp,hm,ZaZ m,?_⟩
  rw [RE e (Wi (ZaZ m)) (by intro z;rw [z] at hp;simp at hp) (by rw [hl,length_cons];omega),ZfC]
theorem Zfa {i:Int}(h:i.natAbs < 10 ^ 30):Xu (Qa (Gn i)) 30=some i:=by
 obtain ⟨h1,h2,h3,h4⟩:=ZbL h
 unfold Xu
 rw [if_pos ⟨h1,h2,h3⟩,h4,Sn,if_pos rfl]
def Uc (w:Str):Str:=⟨(WD false (w.cps.toList.drop 1).dropLast).toArray⟩
def Uh (w:Str):Option V :=
 if w.cps.toList.head?=some 39 then (if (Uc w).length<=40/\(Uc w).cps.toList.all Yz=true/\Yk (.str (Uc w))=w then some (.str (Uc w)) else none)
 else (Xu w 30).map V.int
theorem ZiM {v:V}(h:IsVal v):Uh (Yk v)=some v:=by
 cases v with
 | int i =>
  obtain ⟨h1,h2,h3,h4⟩:=ZbL (show i.natAbs < 10 ^ 30 from h)
  show Uh (Qa (Gn i))=_
  unfold Uh
  rw [if_neg,Zfa h];rfl
  intro z
  have:(39:Nat)∈(Qa (Gn i)).cps.toList:=List.mem_of_mem_head? z
  have:=Ziu this;omega
 | str x =>
  have e:Uc (Yk (.str x))=x:=by
   apply ZZ
   show WD false ((39::YN x.cps.toList++[39]).drop 1).dropLast=_
   simp only [Py,drop_succ_cons,drop_zero,List.dropLast_concat]
   exact ZfO _
  unfold Uh
  rw [e,if_pos (show (Yk (.str x)).cps.toList.head?=some 39 from rfl),if_pos ⟨h.1,h.2,rfl⟩]
 | _=>exact h.elim
theorem ZcI (x:Str):(Qs x (some 1) none).cps.toList=x.cps.toList.drop 1:=by
 rw [YY]
 have hl:=Zq x
 have e1:HT.sIx x.length 0 (some 1)=min 1 x.length:=by
  unfold HT.sIx
  simp only [show ¬ (1:Int) < 0 by decide,if_false]
  omega
 have e2:HT.sIx x.length x.length none=x.length:=rfl
 rw [e1,e2]
 cases e:x.cps.toList with
 | nil=>simp
 | cons a r =>
  rw [e] at hl
  have hl:x.length=r.length+1:=hl
  rw [show min 1 x.length=1 by omega,hl]
  simp
theorem ZjK (x:Str):(Qs x (some 1) (some (-1))).cps.toList=(x.cps.toList.drop 1).dropLast:=by
 rw [YY]
 have hl:=Zq x
 have e1:HT.sIx x.length 0 (some 1)=min 1 x.length:=by
  unfold HT.sIx
  simp only [show ¬ (1:Int) < 0 by decide,if_false]
  omega
 have e2:HT.sIx x.length x.length (some (-1))=x.length - 1:=by
  unfold HT.sIx
  simp only [show (-1:Int) < 0 by decide,if_true]
  omega
 rw [e1,e2,Pe,length_drop,<- hl]
 cases e:x.cps.toList with
 | nil=>simp
 | cons a r =>
  rw [e] at hl
  have hl:x.length=r.length+1:=hl
  rw [show min 1 x.length=1 by omega]
theorem ZjS {prog:Qm}{w:QC}{A:QK}{it:Addr}{fp:List Addr}{n k:Nat}{P:Nat->Qe->Prop}{St:Nat->Heap->Prop}(D:Draws prog w A it fp n P St) :
 Draws prog w A it fp (n+k) (fun i v=>∃ j,i=j+k/\P j v) (fun i h=>∃ j,i=j+k/\St j h) where
 live:=fun i h ⟨j,_,st⟩=>D.live j h st
 frame:=fun i h h' ⟨j,e,st⟩ kp=>⟨j,e,D.frame j h h' st kp⟩
 item:=fun i s Q E hi ⟨j,e,st⟩ hQ=>by
  subst e
  exact D.item j s Q E (by omega) st fun x h' tk p st' sb=>hQ x h' tk ⟨j,rfl,p⟩ ⟨j+1,by omega,st'⟩ sb
 done:=fun s Q E ⟨j,e,st⟩ hE=>by
  have:n=j:=by omega
  subst this
  exact D.done s Q E st hE
theorem Zjc {prog:Qm}{w:QC}{A:QK}(hh:A.handled=none)(it l:Addr)(items:Array Qe)(i:Nat)(hi:items[i]?=none) :
 Draws prog w A.in1 it [it,l] 0 (fun _ _=>False) (fun _ h=>h.IsListIter it l i/\h.IsList l items) where
 live:=fun _ _ st=>let ⟨o,ho,_⟩:=st.1;⟨o,ho⟩
 frame:=fun _ _ _ st kp=>⟨st.1.at fun o e=>kp it (by simp) o e,st.2.at fun o e=>kp l (by simp) o e⟩
 item:=fun j _ _ _ hj=>absurd hj (Gv _)
 done:=fun s Q E st hE=>PySem.wpAny_nextOf_list_end hh st.1 st.2 hi hE
theorem Zcm (l:Addr)(items:Array Qe)(n:Nat)(k:Int)(t1:Tok)(hk:Pc k=true) :
 Meets (Tb.«enumerate.__new__» ⟨[.type "enumerate",.ref l],[("start",.int k t1)]⟩) (fun _ R s=>s.heap.get? l=some { cls:=.type "list",dict:=none,data:=.seq items n,slots:=#[] } /\
  R (.ok (.ret (.ref (s.heap.push { cls:=.type "list_iterator",data:=.fields #[.ref l,.int 0 0] }).objs.size)))
   {s with heap:=(s.heap.push { cls:=.type "list_iterator",data:=.fields #[.ref l,.int 0 0] }).push { cls:=.type "enumerate",data:=.fields #[.none,.bool false,.ref s.heap.objs.size,JN k,.none,.none] } }) :=
 .of_wp fun prog w A R s h=>by
  obtain ⟨hp,g,d,tk,os⟩:=s
  obtain ⟨hl,h⟩:=h
  have sub1:=sub_enumerate
  have hL:Heap.IsList (RC ⟨hp,g,d,tk,os⟩) l items:=⟨_,hl,rfl,n,rfl⟩
  wp_walk using OD hl
  have hk2:¬ (!Builtin.SmallTypes.fitsIndex k)=true:=by rw [hk];decide
  refine wpAny_stack_any fun st=>Qk ?_
  split
  ·rename_i c _ _ _ _ _
   cases (c == Td "enumerate")<;>(wp_walk using OD hl,Jv hL;exact ⟨_,rfl,h⟩)
  ·wp_walk using OD hl,Jv hL
   exact ⟨_,rfl,h⟩
section
variable {prog:Qm}{w:QC}{A:QK}{E:Qe->Qg->Prop}{s:Qg}
theorem Zcz {l:Addr}{items:Array Qe}{n:Nat}{k:Int}{t1:Tok}{Q:Qe->Qg->Prop}(hk:Pc k=true)(hl:s.heap.get? l=some { cls:=.type "list",dict:=none,data:=.seq items n,slots:=#[] })
 (h:∀ h',IsEnum h' (s.heap.objs.size+1) s.heap.objs.size k .none->h'.IsListIter s.heap.objs.size l 0->h'.objs.size=s.heap.objs.size+2 ->
  (∀ b o,s.heap.get? b=some o->h'.get? b=some o)->Q (.ref (s.heap.objs.size+1)) { s with heap:=h' }) :
 Qr (QA prog w) A (call (.type "enumerate") [.ref l] [("start",.int k t1)]) Q E s:=by
 have ft:=F.called_enumerate
 refine ZeK (Q₁:=fun obj s₁=>s₁.TypeIs obj "enumerate"/\Q obj s₁) ft (Zas _ _) (ZaD _ _) F.entry_enumerate_new F.entry_object_init (Zcm l items n k t1 hk) ?_
  (fun obj s₁ hq=>⟨hq.1,Zcg obj _ _,_,ZcN ft.init.lookup ft.made (by decide),hq.1,rfl,hq.2⟩)
 refine ⟨hl,?_⟩
 generalize hO:({ cls:=.type "list_iterator",data:=.fields #[.ref l,.int 0 0] }:Obj)=O
 have hz:(s.heap.push O).objs.size=s.heap.objs.size+1:=Gd ..
 generalize hO2:({ cls:=.type "enumerate",data:=.fields #[.none,.bool false,.ref s.heap.objs.size,JN k,.none,.none] }:Obj)=O2
 have he:((s.heap.push O).push O2).get? (s.heap.objs.size+1)=some O2:=by
  have e:=Qn (s.heap.push O) (o:=O2) (by rw [<- hO2];rfl)
  rw [hz] at e;exact e
 have hi:((s.heap.push O).push O2).get? s.heap.objs.size=some O:=Qf _ (Qn _ (by rw [<- hO];rfl))
 have key:Shared.TypeIs { s with heap:=(s.heap.push O).push O2 } (.ref (s.heap.objs.size+1)) "enumerate"/\Q (.ref (s.heap.objs.size+1)) { s with heap:=(s.heap.push O).push O2 } :=
  ⟨⟨O2,he,by rw [<- hO2]⟩,h _ (by rw [<- hO2] at he ⊢;exact he) ⟨O,hi,by rw [<- hO],by rw [<- hO];rfl⟩ (by rw [Gd,hz]) fun b o y=>Qf _ (Qf _ y)⟩
 rw [<- hz] at key
 exact key
end
def Zbm (K:Qb)(a:Addr)(k:Nat):It :=
 ⟨fun i H=>∃ xs x,SqL K H a xs/\xs[i]?=some x,fun i H v H'=>∃ t x,H t=none/\(∀ xs,SqL K H a xs->xs[i]?=some x)/\v=.ref t/\H'=upd H t (.tup [.int ((i+k:Nat):Int),x]),fun i H=>∃ xs,SqL K H a xs/\xs.length<=i⟩
theorem Zhw {P:Qm}{w:QC}{K:Qb}{elts:List Expr}{x1:Nat}{tp:Pos}(k:Nat)(a e it:Addr)(hne:e≠it)(hai:a≠it)(hae:a≠e) :
 Ub P w K (.Tuple elts x1 tp) (Zbm K a k) [e,it] e (fun i h=>(∃ old,IsEnum h e it ((i+k:Nat):Int) old)/\h.IsListIter it a i) where
 mem:=by simp
 obj:=fun i h st b hb=>by
  obtain ⟨⟨old,he⟩,⟨o,ho,c,d⟩⟩:=st
  rcases mem_cons.mp hb with q | hb
  ·rw [q];exact ⟨_,he,fun v z=>by cases z⟩
  ·rw [mem_singleton.mp hb];exact ⟨o,ho,fun v z=>by rw [d] at z;cases z⟩
 keep:=fun i h h' st kp=>by
  obtain ⟨⟨old,he⟩,st⟩:=st
  exact ⟨⟨old,kp e (by simp) _ he⟩,st.at fun o y=>kp it (by simp) o y⟩
 item:=by
  intro X hP hw hK hc i pins s σ H E I hf st hg
  subst hP hw hK
  obtain ⟨⟨old,he⟩,hs⟩:=st
  obtain ⟨xs,x,hq,hx⟩:=hg
  obtain ⟨its,rv,p,hz⟩:=I.list hq
  obtain ⟨u,hu,ru⟩:=rv.get hx
  have hlt:i < its.toArray.size:=by
   have:=(Ql.mp hu).1
   simpa using this
  have D:=ZjS (k:=k) (Draws.list (prog:=X.prog) (w:=X.w) (A:=X.A.in1) (I.ok.hd hc) it a hai its.toArray)
  refine RV (i:=i+k) D he ⟨i,rfl,hs,p.isList⟩ (by omega) hne (by simp [hne,GR hae]) fun v h' tk hP hOut hst hT hsz hk=>?_
  obtain ⟨j,ej,hP⟩:=hP
  have ej':i=j:=by omega
  subst ej'
  obtain ⟨j,ej,hst⟩:=hst
  have ej':i+1=j:=by omega
  subst ej'
  have ev:v=u:=by
   have:its[i]?=some v:=by simpa using hP
   rw [hu] at this;exact (QZ this).symm
  subst ev
  have hel:e < s.heap.objs.size:=Qj he
  have hil:it < s.heap.objs.size:=by obtain ⟨o,ho,_⟩:=hs;exact Qj ho
  refine ⟨_,rfl,Rp hOut fun h2 he2 hs2=>?_⟩
  generalize hO:({ cls:=.type "tuple",data:=.seq #[.int ((i+k:Nat):Int) tk,v] }:Obj)=O at hT
  have I1:Inv X pins σ (upd H s.heap.objs.size (.tup [.int ((i+k:Nat):Int),x])) { s with heap:=s.heap.push O,toks:=tk+1 }:=by
   refine I.laid (t':=tk+1) (fun b o y=>Qf _ y) (Qh _) (show ObjOk X.prog X.w _ _ _ (.tup _) from ⟨by show 2<=Qi;decide,[.int ((i+k:Nat):Int) tk,v],.cons ⟨tk,rfl⟩ (.cons ru .nil),?_⟩)
   rw [<- hO];exact Px _ _
  have hfree:=I.hok.fresh (Qh s.heap.objs.size)
  have hf2:∀ b∈[e,it],YM X pins (upd H s.heap.objs.size (.tup [.int ((i+k:Nat):Int),x])) b:=fun b hb=>by
   obtain ⟨f0,f1⟩:=hf b hb
   have hb':b≠s.heap.objs.size:=by
    rcases mem_cons.mp hb with q | hb
    ·rw [q];exact Qt hel
    ·rw [mem_singleton.mp hb];exact Qt hil
   exact ⟨by rw [Zn hb'];exact f0,f1⟩
  have I2:Inv X pins σ (upd H s.heap.objs.size (.tup [.int ((i+k:Nat):Int),x])) { s with heap:=h2,toks:=tk+1 }:=by
   refine I1.turned2 (t':=tk+1) (h':=h2) (fun b o hb y=>?_) hf2
   have hbe:b≠e:=fun q=>hb (by simp [q])
   have hbi:b≠it:=fun q=>hb (by simp [q])
   rw [hs2.2 b hbe]
   rcases JB y with ⟨q1,q2⟩ | y
   ·rw [q1,q2];exact hT
   ·exact hk b o hbe hbi y
  refine ⟨.ref s.heap.objs.size,_,I2,rfl,⟨s.heap.objs.size,x,hfree,fun ys hy=>by rw [I.list_inj hy hq];exact hx,rfl,rfl⟩,⟨⟨_,by have:=he2;rw [show ((i+k:Nat):Int)+1=((i+1+k:Nat):Int) by omega] at this;exact this⟩,?_⟩,fun b hb=>(hf2 b hb).1⟩
  exact hst.1.at fun o y=>by rw [hs2.2 it hne.symm];exact y
 done:=by
  intro X hP hw hK hc i pins s σ H E I hf st hg
  subst hP hw hK
  obtain ⟨⟨old,he⟩,hs⟩:=st
  obtain ⟨xs,hq,hle⟩:=hg
  obtain ⟨its,rv,p,hz⟩:=I.list hq
  have hl:=rv.length
  obtain ⟨f0,f1,f2,f3,f4,f5⟩:=hf it (by simp)
  exact wpAny_pyNext_enum_endD (Zjc (I.ok.hd hc) it a its.toArray i (by simp;omega)) he ⟨hs,p.isList⟩ fun h' eb=>⟨rfl,I.turned (t':=s.toks) (fun b o hb y=>eb b o hb y) f0 f1 f3 f4 f5⟩
 self:=fun _ _ _ _ _ st h=>by
  obtain ⟨⟨old,he⟩,_⟩:=st
  exact TJ he h
def ZnD (K:Qb)(tl tk:TE):TI:=fun σ H R=>tl σ H fun v H1=>∃ a,[v]=[V.ref a]/\tk σ H1 fun z H2=>∃(k:Nat)(xs:List V),[z]=[V.int (k:Int)]/\k<=1000000/\H2 a=some (.lst xs)/\R (Zbm K a k) H2
section
variable {X:Cx}
theorem Zei {l ke:Expr}{tl tk:TE}{elts:List Expr}{x1:Nat}{tp p pos kpos:Pos}(hg:Gl X "enumerate")(hm:X.mg "enumerate"=none)(hl:PE X l tl)(hk:PE X ke tk)
 (he:QH [l] X.env=[(false,eval l X.env)]:=by rfl):PI X (.Tuple elts x1 tp) (.Call (.Name "enumerate" p) [l] [⟨some "start",ke,kpos⟩] pos) (ZnD X.K tl tk):=by
 intro pins s σ H R I h
 have ha:PA X [l] (Xa tl Xf):=YC hl Za he
 have hk:PK X [⟨some "start",ke,kpos⟩] (Xa tk Xf):=Znf hk Znj
 refine Gc (Ug I hg hm boot_enumerate (ZbC (by rw [he];rfl) rfl (evalArgs_kw2 rfl ?_ he)))
 refine Zt (ha pos pins s σ H (fun vs H1=>∃ a,vs=[V.ref a]/\tk σ H1 fun z H2=>∃ (k:Nat) (xs:List V),[z]=[V.int (k:Int)]/\k<=1000000/\H2 a=some (.lst xs)/\R (Zbm X.K a k) H2) I h) fun us s1 ⟨vs,H1,I1,r1,a,e,q⟩=>?_
 subst e
 obtain ⟨u,rfl,r⟩:=YU r1
 cases r
 refine Zt (hk pos pins s1 σ H1 (fun vs H2=>∃ (k:Nat) (xs:List V),vs=[V.int (k:Int)]/\k<=1000000/\H2 a=some (.lst xs)/\R (Zbm X.K a k) H2) I1 q) fun ws s2 ⟨zs,H2,I2,r2,k,xs,e1,hk2,ea,q⟩=>?_
 subst e1
 obtain ⟨u',rfl,t',rfl⟩:=YU r2
 obtain ⟨z,its,n,rv,hll,eo⟩:=I2.lstM ea
 have hal:a < s2.heap.objs.size:=Qj eo
 refine Zcz (by unfold Pc;simp;omega) eo fun h' hE hit hsz hkk=>TJ hE ?_
 refine ⟨s2.heap.objs.size+1,[s2.heap.objs.size+1,s2.heap.objs.size],_,_,H2,rfl,I2.kept (t':=s2.toks) hkk,Zhw k a _ _ (Mo _) (Qt hal) (Qt (NW hal)),⟨⟨_,by rw [Ma];exact hE⟩,hit⟩,fun b hb=>?_,q⟩
 rcases mem_cons.mp hb with z | hb
 ·rw [z];exact I2.fpOk (JV _) (I2.hok.fresh (JV _))
 ·rw [mem_singleton.mp hb];exact I2.fpOk (Qh _) (I2.hok.fresh (Qh _))
end
theorem ZdC {K:Qb}{a:Addr}{k:Nat}{xs:List V}{g:TG}{tb:TS}{D:Uz}{σ:St}{H:Hp}(Pv:Nat->St->Hp->Prop)(h0:Pv 0 σ H)(hl:∀ i σ H,i<=xs.length->Pv i σ H->SqL K H a xs)
 (hs:∀ i x t σ H,xs[i]?=some x->H t=none->Pv i σ H->g (.ref t) σ (upd H t (.tup [.int ((i+k:Nat):Int),x])) fun σ2 H2=>tb { D with nx:=Pv (i+1),ct:=Pv (i+1),bk:=D.nx } σ2 H2) (hd:∀ σ H,Pv xs.length σ H->D.nx σ H) :
 ∃ W:Nat->Nat->St->Hp->Prop,(∃ m,W 0 m σ H)/\∀ i m σ H,W i m σ H ->
  ((Zbm K a k).stop i H/\D.nx σ H)\/((Zbm K a k).go i H/\∃ N:St->Hp->Prop,(∀ σ' H',N σ' H'->∃ m',m' < m/\W (i+1) m' σ' H')/\∀ y H',(Zbm K a k).yld i H y H'->g y σ H' fun σ2 H2=>tb { D with nx:=N,ct:=N,bk:=D.nx } σ2 H2):=by
 refine ⟨fun i m σ H=>m=xs.length - i/\i<=xs.length/\Pv i σ H,⟨xs.length,by simp,Qp _,h0⟩,?_⟩
 rintro i m σ H ⟨rfl,hi,p⟩
 have q:=hl i σ H hi p
 by_cases hlt:i < xs.length
 ·refine .inr ⟨⟨xs,xs[i],q,by simp [hlt]⟩,Pv (i+1),fun σ' H' z=>⟨xs.length - (i+1),by omega,rfl,hlt,z⟩,fun y H' hy=>?_⟩
  obtain ⟨t,x,ht,hx,rfl,rfl⟩:=hy
  exact hs i x t σ H (hx xs q) ht p
 ·have e:i=xs.length:=by omega
  subst e
  exact .inl ⟨⟨xs,q,Qh _⟩,hd σ H p⟩
theorem Zhh {X:Cx}:PIp X .Add (fun x y H Q=>∃ i j,x=.str i/\y=.str j/\i.length+j.length<=Qi/\Q (.str (i++j)) H):=by
 intro pins s σ H x y v u Q I r1 r2 h
 exact Zfq pins s σ H x y v u Q I r1 r2 h
theorem Zmx {x:Str}{g:TG}{tb:TS}{D:Uz}{σ:St}{H:Hp}(Pv:Nat->St->Hp->Prop)(h0:Pv 0 σ H)
 (hs:∀ i c σ H,x.cps.toList[i]?=some c->Pv i σ H->g (.str ⟨#[c]⟩) σ H fun σ2 H2=>tb { D with nx:=Pv (i+1),ct:=Pv (i+1),bk:=D.nx } σ2 H2) (hd:∀ σ H,Pv x.cps.toList.length σ H->D.nx σ H) :
 ∃ W:Nat->Nat->St->Hp->Prop,(∃ m,W 0 m σ H)/\∀ i m σ H,W i m σ H ->
  ((Its x).stop i H/\D.nx σ H)\/((Its x).go i H/\∃ N:St->Hp->Prop,(∀ σ' H',N σ' H'->∃ m',m' < m/\W (i+1) m' σ' H')/\∀ y H',(Its x).yld i H y H'->g y σ H' fun σ2 H2=>tb { D with nx:=N,ct:=N,bk:=D.nx } σ2 H2):=by
 rw [QV] at hd
 refine ⟨fun i m σ H=>m=x.cps.size - i/\i<=x.cps.size/\Pv i σ H,⟨x.cps.size,by simp,Qp _,h0⟩,?_⟩
 rintro i m σ H ⟨rfl,hi,p⟩
 by_cases hlt:i < x.cps.size
 ·refine .inr ⟨hlt,Pv (i+1),fun σ' H' p'=>⟨x.cps.size - (i+1),by omega,rfl,hlt,p'⟩,fun y H' z=>?_⟩
  obtain ⟨rfl,c,e2,rfl⟩:=z
  exact hs i c σ _ (by rw [Sd];exact e2) p
 ·have e:i=x.cps.size:=by omega
  subst e
  exact .inl ⟨Qh _,hd σ H p⟩
theorem Zel (c d:Nat)(y:Str)(h:y=⟨#[d]⟩):decide (V.str ⟨#[c]⟩=V.str y)=decide (c=d):=by
 subst h
 by_cases e:c=d
 ·subst e;rw [decide_eq_true rfl,decide_eq_true rfl]
 ·rw [decide_eq_false e,decide_eq_false]
  intro z
  injection z with z
  have:=congrArg (fun s:Str=>s.cps.toList) z
  exact e (by simpa using this)
end L2
namespace K69
open PySem L2
def Xd (x:Str):Bool:=(decide (1<=x.length)&&decide (x.length<=8))&&x.cps.toList.all US
theorem Zcl {x:Str}(h:Yg x):Xd x=true:=by
 unfold Xd;rw [decide_eq_true h.1,decide_eq_true h.2.1,h.2.2];rfl
theorem ca:(Qa "a").cps.toList=[97]:=by decide +kernel
theorem cz:(Qa "z").cps.toList=[122]:=by decide +kernel
theorem cbl:(Qa " ").cps.toList=[32]:=by decide +kernel
theorem cti:(Qa "~").cps.toList=[126]:=by decide +kernel
theorem c0:(Qa "0").cps.toList=[48]:=by decide +kernel
theorem c9:(Qa "9").cps.toList=[57]:=by decide +kernel
section
variable {P:Qm}{w:QC}{K:Qb}{mg:Str->Option Qe}{base:Heap}{tl t3 t4:Tok}
theorem btw {R:VK}{c lo hi:Nat}{x y:Str}{H':Hp}(ex:x.cps.toList=[lo])(ey:y.cps.toList=[hi])(hR:R (.bl (decide (lo<=c)&&decide (c<=hi))) H') :
 if (!decide ((⟨#[c]⟩:Str).cps.toList < x.cps.toList))=true then ∃ i j:Str,V.str ⟨#[c]⟩=.str i/\V.str y=.str j/\R (.bl (!decide (j.cps.toList < i.cps.toList))) H' else R (.bl false) H':=by
 rw [ex]
 show if (!decide ([c] < [lo]))=true then _ else _
 rw [ZfB]
 by_cases d1:c < lo
 ·rw [decide_eq_true d1]
  rw [decide_eq_false (show ¬ lo<=c by omega)] at hR
  exact Zw hR
 ·rw [decide_eq_false d1]
  rw [decide_eq_true (show lo<=c by omega),Bool.true_and] at hR
  refine Zx ⟨_,_,rfl,rfl,?_⟩
  rw [ey]
  show R (.bl (!decide ([hi] < [c]))) H'
  rw [ZfB]
  by_cases d2:hi < c
  ·rw [decide_eq_true d2];rw [decide_eq_false (by omega)] at hR;exact hR
  ·rw [decide_eq_false d2];rw [decide_eq_true (by omega)] at hR;exact hR
def Zgk (f:Str->Bool):Sp:=fun vs H Q _=>∃ x:Str,vs=[.str x]/\x.length<=100000/\∀ H',Same H H'->Q (.bl (f x)) H'
abbrev nNn:List Str:=["thing"]
abbrev ZkO:List Str:=["thing"]
theorem scNn:ZB nNn ZkO (Zl s_is_name):=⟨rfl,rfl,rfl,by decide +kernel,rfl,by decide +kernel,by decide +kernel⟩
theorem Zie {f:Addr}{fd:Qq}(F:Fun K "is_name" "is_name" s_is_name f fd)(T:Ya mg)(hLN:mg "LONGEST_NAME"=some (.int 8 tl)):FnOk P w K mg base Yc 1 f fd ZkO (Zgk Xd):=by
 refine F.ok scNn (fun vs H Q E h=>?_) (fun cdv A outer s H vs Q E hr h=>?_)
 ·obtain ⟨x,rfl,_⟩:=h;rfl
 obtain ⟨x,rfl,hx,q⟩:=h
 refine' ⟨?t,?h,?r⟩
 case h =>
  conv=>arg 2;whnf
  with_reducible refine' (Zf (ZT ?h1 (Zh ?h2) ZI) (Zh ?h3))
  case h1=>exact XI (Yo (Zm (Yx (K:=K) rfl) rfl T.isinstance (by decide +kernel) (Zb (pv 0) (Zb (YH rfl T.str (by decide +kernel) (v:=.ty "str") rfl) Za))))
  case h2=>exact Zo Zad
  case h3=>exact Zo (XZ (Wv UD UD Zc (Zm ZQ rfl T.len Qu (Zb (pv 0) Za)) (YS rfl hLN (v:=.int 8) ⟨_,rfl⟩)) (WH (Zm (Wx rfl) rfl T.all (by decide +kernel) (Zb (XM (CompOk.of nNn s_is_name rfl rfl (by decide +kernel)) rfl (UI (pv 0))  (fun _ _ _ _ _=>Wv YT YT Zk (pv 1) Zk)) Za))))
 refine ⟨_,rfl,_,_,_,true,rfl,.inl (.str _),rfl,_,rfl,Zw ?_⟩
 refine ⟨_,rfl,x,rfl,Zp hx,?_⟩
 have fin:∀ b:Bool,b=Xd x->Q (.bl b) H:=fun b e=>by rw [e];exact q H (Same.refl H)
 refine ⟨_,_,rfl,rfl,_,rfl,?_⟩
 by_cases c1:(1:Int)<=(x.length:Int)
 ·rw [decide_eq_true c1]
  refine Zx ⟨_,_,rfl,rfl,_,rfl,?_⟩
  by_cases c2:(x.length:Int)<=8
  ·rw [decide_eq_true c2]
   refine Zx ⟨_,rfl,x,rfl,fun D hD=>?_⟩
   refine XJ (Zp hx) (fun c=>.bl (US c)) (fun c H' R hc hR=>?_) ⟨D,x.cps.toList.map US,rfl,SqL.of (by rw [VI];exact Ze),?_⟩
   ·exact ⟨_,rfl,_,_,rfl,rfl,_,rfl,btw ca cz hR⟩
   ·have:(x.cps.toList.map US).all id=Xd x:=by
     unfold Xd
     rw [decide_eq_true (show 1<=x.length by omega),decide_eq_true (show x.length<=8 by omega),all_map];rfl
    rw [this]
    exact q _ (Zg hD _)
  ·rw [decide_eq_false c2]
   exact Zw (fin _ (by unfold Xd;rw [decide_eq_false (show ¬ x.length<=8 by omega)];simp))
 ·rw [decide_eq_false c1]
  refine Zw ⟨_,rfl,?_⟩
  exact Zw (fin _ (by unfold Xd;rw [decide_eq_false (show ¬ 1<=x.length by omega)];simp))
abbrev nVl:List Str:=["thing"]
abbrev Zjr:List Str:=["thing"]
theorem scVl:ZB nVl Zjr (Zl s_is_value):=⟨rfl,rfl,rfl,by decide +kernel,rfl,by decide +kernel,by decide +kernel⟩
theorem ZgY {f:Addr}{fd:Qq}(F:Fun K "is_value" "is_value" s_is_value f fd)(T:Ya mg):FnOk P w K mg base Yc 1 f fd Zjr (Zgk fun x=>x.cps.toList.all Yz):=by
 refine F.ok scVl (fun vs H Q E h=>?_) (fun cdv A outer s H vs Q E hr h=>?_)
 ·obtain ⟨x,rfl,_⟩:=h;rfl
 obtain ⟨x,rfl,hx,q⟩:=h
 refine' ⟨?t,?h,?r⟩
 case h =>
  conv=>arg 2;whnf
  with_reducible refine' (Zf (ZT ?h1 (Zh ?h2) ZI) (Zh Zlr))
  case h1=>exact Yo (Zm (Yx (K:=K) rfl) rfl T.isinstance (by decide +kernel) (Zb (pv 0) (Zb (YH rfl T.str (by decide +kernel) (v:=.ty "str") rfl) Za)))
  case h2=>exact Zo (Zm (Wx rfl) rfl T.all (by decide +kernel) (Zb (XM (CompOk.of nVl s_is_value rfl rfl (by decide +kernel)) rfl (UI (pv 0))  (fun _ _ _ _ _=>Wv YT YT Zk (pv 1) Zk)) Za))
 refine ⟨_,rfl,_,_,_,true,rfl,.inl (.str _),rfl,_,rfl,Zx ⟨_,rfl,x,rfl,fun D hD=>?_⟩⟩
 refine XJ (Zp hx) (fun c=>.bl (Yz c)) (fun c H' R hc hR=>?_) ⟨D,x.cps.toList.map Yz,rfl,SqL.of (by rw [VI];exact Ze),?_⟩
 ·exact ⟨_,rfl,_,_,rfl,rfl,_,rfl,btw cbl cti hR⟩
 ·have:(x.cps.toList.map Yz).all id=x.cps.toList.all Yz:=by rw [all_map];rfl
  rw [this]
  exact q _ (Zg hD _)
def spUn:Sp:=fun vs H Q _=>∃ x:Str,vs=[.str x]/\x.length<=100000/\Q (.str ⟨(WD false x.cps.toList).toArray⟩) H
abbrev nUn:List Str:=["written","text","behind_slash","sign"]
abbrev ZkN:List Str:=["written"]
theorem scUn:ZB nUn ZkN (Zl s_unslashed):=⟨rfl,rfl,rfl,by decide +kernel,rfl,by decide +kernel,by decide +kernel⟩
theorem ZmQ {f:Addr}{fd:Qq}(F:Fun K "unslashed" "unslashed" s_unslashed f fd)(T:Ya mg):FnOk P w K mg base Yc 1 f fd ZkN spUn:=by
 refine F.ok scUn (fun vs H Q E h=>?_) (fun cdv A outer s H vs Q E hr h=>?_)
 ·obtain ⟨x,rfl,_⟩:=h;rfl
 obtain ⟨x,rfl,hx,q⟩:=h
 refine' ⟨?t,?h,?r⟩
 case h =>
  conv=>arg 2;whnf
  with_reducible refine' (Zf ?h1 (Zf ?h2 (Zf (XX ?h3 ?h4 ?h5 ?h6 (Zf ?h7 (Zh (ZT ?h8 (Zh ?h9) ZI))) ?h10) (Zh ?h11))))
  case h1=>exact Zr (i:=1) scUn.nd rfl (Qy rfl) Zk
  case h2=>exact Zr (i:=2) scUn.nd rfl (Qy rfl) Zad
  case h3=>exact Ga
  case h4=>exact rfl
  case h5=>exact UI (pv 0)
  case h6=>exact ZM (i:=3) scUn.nd rfl (Qy rfl)
  case h7=>exact Zr (i:=2) scUn.nd rfl (Qy rfl) (XZ (Xv Xb (pv 3) Zk (ZC _)) (WH (ZbQ (pv 2))))
  case h8=>exact XI (Yo (pv 2))
  case h9=>exact ZnS (i:=1) scUn.nd rfl (Qy rfl) (pv 3) (Zhh)
  case h10=>exact fun _=>rfl
  case h11=>exact Zo (pv 1)
 refine ⟨_,rfl,x,rfl,?_⟩
 refine Zmx (x:=x) (fun i σ H'=>H'=H/\∃ (acc:List Nat) (b:Bool) (x3:Option V),σ=[some (.str x),some (.str ⟨acc.toArray⟩),some (.bl b),x3]/\acc++WD b (x.cps.toList.drop i)=WD false x.cps.toList/\acc.length<=i) ⟨rfl,[],false,_,rfl,by rw [drop_zero];rfl,Qp _⟩ ?_ ?_
 ·rintro i c σ H' hc ⟨rfl,acc,b,x3,rfl,e,hl⟩
  have hd:x.cps.toList.drop i=c::x.cps.toList.drop (i+1):=by
   obtain ⟨h1,h2⟩:=Ql.mp hc
   rw [drop_eq_getElem_cons h1,h2]
  have hi:=(Ql.mp hc).1
  rw [<- Zq] at hi
  rw [hd,WD] at e
  refine ⟨_,rfl,rfl,_,rfl,?_⟩
  rw [Zel c 92 _ sl1]
  have no:∀ b':Bool,b'=false->(decide (c=92)&&!b)=false->Zlo (tNot (tB (XV 2))) (tAug 1 (XV 3) fun x y H Q=>∃ i j,x=V.str i/\y=V.str j/\i.length+j.length<=Qi/\Q (V.str (i++j)) H) Zhr { nx:=fun σ H''=>H''=H'/\∃ (acc:List Nat) (b:Bool) (x3:Option V),σ=[some (.str x),some (.str ⟨acc.toArray⟩),some (.bl b),x3]/\acc++WD b (x.cps.toList.drop (i+1))=WD false x.cps.toList/\acc.length<=i+1,rt:=Q } [some (.str x),some (.str ⟨acc.toArray⟩),some (.bl b'),some (.str ⟨#[c]⟩)] H':=by
   rintro _ rfl z
   rw [z] at e
   refine ⟨_,rfl,_,rfl,Zx ⟨_,rfl,_,rfl,_,_,rfl,rfl,Zp (show _<=100000 by show acc.toArray.size+1<=100000;rw [size_toArray];omega),rfl,acc++[c],false,some (.str ⟨#[c]⟩),?_,?_,by simp;omega⟩⟩
   ·show _=[some (V.str x),some (V.str ⟨(acc++[c]).toArray⟩),some (V.bl false),some (V.str ⟨#[c]⟩)]
    rw [show (⟨(acc++[c]).toArray⟩:Str)=(⟨acc.toArray⟩:Str)++⟨#[c]⟩ from ZZ (by rw [Xl])]
    rfl
   ·rw [append_assoc];exact e
  by_cases hc2:c=92
  ·rw [decide_eq_true hc2] at e no ⊢
   refine Zx ⟨_,rfl,_,rfl,?_⟩
   cases b with
   | true=>exact no _ rfl rfl
   | false=>exact ⟨_,rfl,_,rfl,Zw ⟨rfl,acc,true,_,rfl,e,by omega⟩⟩
  ·rw [decide_eq_false hc2] at e no ⊢
   exact Zw (no _ rfl rfl)
 ·rintro σ H' ⟨rfl,acc,b,x3,rfl,e,hl⟩
  rw [Oa] at e
  have e:acc=WD false x.cps.toList:=by simpa [WD] using e
  exact ⟨_,rfl,by rw [e];exact q⟩
def spNF:Sp:=fun vs H Q _=>∃(w:Str)(most:Nat),vs=[.str w,.int most]/\w.length<=100000/\most<=300/\∀ H',Same H H'->Q (match Xu w most with | some n=>.int n | none=>.non) H'
abbrev nNf:List Str:=["word","most","figures"]
abbrev ZjZ:List Str:=["word","most"]
theorem scNf:ZB nNf ZjZ (Zl s_number_from):=⟨rfl,rfl,rfl,by decide +kernel,rfl,by decide +kernel,by decide +kernel⟩
theorem ZlW {f:Addr}{fd:Qq}(F:Fun K "number_from" "number_from" s_number_from f fd)(T:Ya mg):FnOk P w K mg base Yc 1 f fd ZjZ spNF:=by
 refine F.ok scNf (fun vs H Q E h=>?_) (fun cdv A outer s H vs Q E hr h=>?_)
 ·obtain ⟨x,_,rfl,_⟩:=h;rfl
 obtain ⟨x,most,rfl,hx,hm,q⟩:=h
 refine' ⟨?t,?h,?r⟩
 case h =>
  conv=>arg 2;whnf
  with_reducible refine' (Xq ?h1 (Zf (ZT ?h2 (Zh ?h3) ZI) (Zh ?h4)))
  case h1=>exact Zr (i:=2) scNf.nd rfl (Qy rfl) (Yv (Yo (ZU Qo Rc Re Zan (pv 0) (Zb Zk Za))) (Zs YA (pv 0) (Zv Zc) Zz) (pv 0))
  case h2=>exact PW.pt (Xt (XI (ZdW UD UD Zc (Zm ZQ rfl T.len Qu (Zb (pv 2) Za)) (pv 1))) (Wg (XI (Yo (Zm (Wx rfl) rfl T.all (by decide +kernel) (Zb (XM (CompOk.of nNf s_number_from rfl rfl (by decide +kernel)) rfl (UI (pv 2))  (fun _ _ _ _ _=>Wv YT YT Zk (pv 3) Zk)) Za))))))
  case h3=>exact Zo YQ
  case h4=>exact Zo (Yv (ZA Xb (Yw Vo rfl T.str (by decide +kernel) (Zb (Yw WN rfl T.int (by decide +kernel) (Zb (pv 0) Za)) Za)) (pv 0) (ZC _)) (Yw WN rfl T.int (by decide +kernel) (Zb (pv 0) Za)) YQ)
 have hlx:=Zq x
 refine ⟨fun σ H'=>H'=H/\∃ y:Str,y.cps.toList=Yu x/\σ=[some (.str x),some (.int most),some (.str y)],?_,?_⟩
 ·refine ⟨_,rfl,rfl,x,_,rfl,rfl,_,rfl,?_⟩
  rw [mi1,Zct]
  by_cases hh:x.cps.toList.head?=some 45
  ·rw [decide_eq_true hh]
   exact Zx ⟨_,rfl,_,rfl,x,rfl,Zp hx,rfl,_,by rw [ZcI];unfold Yu;rw [if_pos hh],rfl⟩
  ·rw [decide_eq_false hh]
   exact Zw ⟨_,rfl,rfl,x,by unfold Yu;rw [if_neg hh],rfl⟩
 rintro σ H ⟨rfl,y,ey,rfl⟩
 have hly:y.length=(Yu x).length:=by rw [Zq,ey]
 have hyx:(Yu x).length<=100000:=by
  unfold Yu
  split
  ·rw [length_drop];omega
  ·omega
 refine ⟨_,rfl,y,rfl,Zp (show _<=100000 by omega),_,_,rfl,rfl,_,rfl,?_⟩
 have no:∀ H',Same H H'->¬ (1<=(Yu x).length/\(Yu x).length<=most/\(Yu x).all XR=true)->Q .non H':=fun H' s' h=>by
  have:=q H' s'
  unfold Xu at this
  rw [if_neg h] at this;exact this
 by_cases c1:(1:Int)<=(y.length:Int)
 ·rw [decide_eq_true c1]
  refine Zx ⟨_,rfl,_,_,rfl,rfl,_,rfl,?_⟩
  by_cases c2:(y.length:Int)<=(most:Int)
  ·rw [decide_eq_true c2]
   refine Zw ⟨_,rfl,y,rfl,fun D hD=>?_⟩
   refine XJ (Zp (show _<=100000 by omega)) (fun c=>.bl (XR c)) (fun c H' R hc hR=>?_) ⟨D,y.cps.toList.map XR,rfl,SqL.of (by rw [VI];exact Ze),?_⟩
   ·exact ⟨_,rfl,_,_,rfl,rfl,_,rfl,btw c0 c9 hR⟩
   have s1:=Zg hD (.lst ((y.cps.toList.map fun c=>V.bl (XR c))))
   generalize upd H D (.lst ((y.cps.toList.map fun c=>V.bl (XR c))))=H1 at s1 ⊢
   have ea:(y.cps.toList.map XR).all id=(Yu x).all XR:=by rw [all_map,ey];rfl
   rw [ea]
   refine ⟨_,rfl,?_⟩
   cases hd:(Yu x).all XR with
   | false=>exact Zx (no H1 s1 fun h=>by rw [hd] at h;exact absurd h.2.2 (by decide))
   | true =>
    have hq:=q H1 s1
    obtain ⟨n,hn,hl,hlog⟩:=Zcj (w:=x) (by omega) (by omega) hd
    unfold Xu at hq
    rw [if_pos ⟨by omega,by omega,hd⟩,hn,Sn] at hq
    refine Zw ⟨_,rfl,x,n,rfl,hn,hl,.inl ⟨n,rfl,hlog,_,rfl,rfl,_,rfl,?_⟩⟩
    by_cases hs:Qa (Gn n)=x
    ·rw [decide_eq_true (by rw [hs])]
     rw [if_pos hs] at hq
     exact Zx ⟨_,rfl,x,n,rfl,hn,hl,hq⟩
    ·rw [decide_eq_false (fun z=>hs (by injection z))]
     rw [if_neg hs] at hq
     exact Zw hq
  ·rw [decide_eq_false c2]
   exact Zx (no H (Same.refl H) fun h=>c2 (by omega))
 ·rw [decide_eq_false c1]
  refine Zw ⟨_,rfl,?_⟩
  exact Zx (no H (Same.refl H) fun h=>c1 (by omega))
def spVF:Sp:=fun vs H Q _=>∃ w:Str,vs=[.str w]/\w.length<=100000/\∀ H',Same H H'->Q (match Uh w with | some v=>v | none=>.non) H'
abbrev nVf:List Str:=["word","text","fits"]
abbrev Zkd:List Str:=["word"]
theorem scVf:ZB nVf Zkd (Zl s_value_from):=⟨rfl,rfl,rfl,by decide +kernel,rfl,by decide +kernel,by decide +kernel⟩
theorem ZmH {f:Addr}{fd:Qq}(F:Fun K "value_from" "value_from" s_value_from f fd)(T:Ya mg)(hMF:mg "MOST_FIGURES"=some (.int 30 t3))(hMS:mg "MOST_SIGNS"=some (.int 40 t4))(DNf:Def P w K mg base 2 "number_from" ZjZ spNF)(DUn:Def P w K mg base 2 "unslashed" ZkN spUn)(DVl:Def P w K mg base 2 "is_value" Zjr (Zgk fun x=>x.cps.toList.all Yz))(DVT:Def P w K mg base 2 "value_text" Zgt Zjs):FnOk P w K mg base Yc 3 f fd Zkd spVF:=by
 refine F.ok scVf (fun vs H Q E h=>?_) (fun cdv A outer s H vs Q E hr h=>?_)
 ·obtain ⟨x,rfl,_⟩:=h;rfl
 obtain ⟨x,rfl,hx,q⟩:=h
 refine' ⟨?t,?h,?r⟩
 case h =>
  conv=>arg 2;whnf
  with_reducible refine' (Zf (ZT ?h1 (Zh ?h2) ZI) (Zf ?h3 (Zf ?h4 (Zh ?h5))))
  case h1=>exact XI (Yo (ZU Qo Rc Re Zan (pv 0) (Zb Zk Za)))
  case h2=>exact Zo (Zu DNf hr (Zb (pv 0) (Zb (YS rfl hMF (v:=.int 30) ⟨_,rfl⟩) Za)))
  case h3=>exact Zr (i:=1) scVf.nd rfl (Qy rfl) (Zu DUn hr (Zb (Zs YA (pv 0) (Zv Zc) (Zv (Vu UM Zc))) Za))
  case h4=>exact Zr (i:=2) scVf.nd rfl (Qy rfl) (XZ (Xv UD (Zm ZQ rfl T.len Qu (Zb (pv 1) Za)) (YS rfl hMS (v:=.int 40) ⟨_,rfl⟩) (ZC _)) (XZ (Zu DVl hr (Zb (pv 1) Za)) (WH (Xv Xb (Zu DVT hr (Zb (pv 1) Za)) (pv 0) (ZC _)))))
  case h5=>exact Zo (Yv (Yo (pv 2)) (pv 1) YQ)
 have hlx:=Zq x
 refine ⟨_,rfl,rfl,x,_,rfl,rfl,_,rfl,?_⟩
 rw [qu1,Zct]
 by_cases hh:x.cps.toList.head?=some 39
 ·rw [decide_eq_true hh]
  have et:(⟨(WD false (Qs x (some 1) (some (-1))).cps.toList).toArray⟩:Str)=Uc x:=by rw [ZjK];rfl
  have hlt:(Uc x).length<=100000:=by
   have:=ZcT false (x.cps.toList.drop 1).dropLast
   rw [SE,length_drop] at this
   show (WD false (x.cps.toList.drop 1).dropLast).toArray.size<=_
   rw [size_toArray];omega
  refine Zw ⟨_,rfl,_,rfl,_,rfl,_,rfl,x,rfl,Zp hx,_,rfl,Qw (PB x _ _) hx,?_⟩
  rw [et]
  have no:∀ H',Same H H'->¬ ((Uc x).length<=40/\(Uc x).cps.toList.all Yz=true/\Yk (.str (Uc x))=x)->Q .non H':=fun H' s' h=>by
   have:=q H' s'
   unfold Uh at this
   rw [if_pos hh,if_neg h] at this;exact this
  refine ⟨_,rfl,_,rfl,Zp hlt,_,_,rfl,rfl,_,rfl,?_⟩
  by_cases c1:((Uc x).length:Int)<=40
  ·rw [decide_eq_true c1]
   refine Zx ⟨_,rfl,_,rfl,hlt,fun H1 s1=>?_⟩
   refine ⟨(Uc x).cps.toList.all Yz,rfl,?_⟩
   cases c2:(Uc x).cps.toList.all Yz with
   | false=>exact Zw ⟨_,rfl,_,rfl,Zw (no H1 s1 fun h=>by rw [c2] at h;exact absurd h.2.1 (by decide))⟩
   | true =>
    refine Zx ⟨_,rfl,_,rfl,⟨by omega,c2⟩,_,rfl,rfl,?_⟩
    refine ⟨_,rfl,_,rfl,?_⟩
    by_cases c3:Yk (.str (Uc x))=x
    ·rw [decide_eq_true (by rw [c3])]
     have:=q H1 s1
     unfold Uh at this
     rw [if_pos hh,if_pos ⟨by omega,c2,c3⟩] at this
     exact Zx ⟨_,rfl,this⟩
    ·rw [decide_eq_false (fun z=>c3 (by injection z))]
     exact Zw (no H1 s1 fun h=>c3 h.2.2)
  ·rw [decide_eq_false c1]
   exact Zw ⟨_,rfl,_,rfl,Zw (no H (Same.refl H) fun h=>c1 (by omega))⟩
 ·rw [decide_eq_false hh]
  refine Zx ⟨_,rfl,x,30,rfl,hx,by decide,fun H1 s1=>?_⟩
  have:=q H1 s1
  unfold Uh at this
  rw [if_neg hh] at this
  cases e:Xu x 30 with
  | none=>rw [e] at this;exact this
  | some n=>rw [e] at this;exact this
end
end K69
namespace L2
open PySem PySem.Spec PyProof.Rows
def ZmR (K:Qb):V->List V->Hp->VK->Prop:=fun x vs H Q=>∃(l:Addr)(ns:List Str)(y:Str),x=.ref l/\vs=[.str y]/\SqL K H l (ns.map V.str)/\y∈ns/\ns.length<=100000/\Q (.int (ns.idxOf y:Nat)) H
theorem Zjh {ns:List Str}{y:Str}:∀{j:Nat}(h:j < ns.length),j < ns.idxOf y->ns[j]≠y:=by
 induction ns with
 | nil=>intro j h;simp at h
 | cons a r ih =>
  intro j h hj
  rw [List.idxOf_cons] at hj
  by_cases e:(a == y)=true
  ·rw [e] at hj;simp at hj
  ·have e':(a == y)=false:=by simpa using e
   rw [e'] at hj
   cases j with
   | zero=>intro z;exact e (by simpa using z)
   | succ j=>exact ih (j:=j) (by simpa using h) (by simpa using hj)
section
variable {X:Cx}
theorem Zda:MtR X "list.index" (ZmR X.K):=by
 intro pins s σ H x vs v us Q I rx rv h
 obtain ⟨l,ns,y,rfl,rfl,hl,hk,hz,q⟩:=h
 cases rx
 obtain ⟨u,rfl,ru⟩:=YU rv
 obtain ⟨its,r,ht,_⟩:=I.list hl
 obtain ⟨⟨cls,dd,data,sl⟩,n,ho,hc,hsl,hd⟩:=ht
 have hlen:ns.length=its.length:=by have:=r.length;rwa [length_map] at this
 have hj:ns.idxOf y < ns.length:=RP.mpr hk
 dsimp only at hc hsl hd
 subst hc hsl hd
 have at':∀ (j:Nat) (h1:j < its.length) (h2:j < ns.length),WG (.str y) its[j]=decide (ns[j]=y):=fun j h1 h2=>by
  obtain ⟨u',e1,e2⟩:=r.get (i:=j) (x:=V.str ns[j]) (by simp [h2])
  rw [getElem?_eq_getElem h1] at e1
  cases e1
  rw [Zck e2 rfl]
  show (ns[j] == y)=_
  exact (Jc.mpr (by simp))
 refine Sl To ⟨_,ho,rfl⟩ PySem.F.entry_list_index (PySem.F.args_list_index_2 _ _)
  (PySem.SeqAt.list_indexAt l its.toArray n none sl _ (WG (.str y)) (ns.idxOf y) (by simpa [hlen] using hj) (by omega) ?_ ?_) ⟨ho,fun w hw=>WQ ru rfl r (Zax ns) w (by simpa using hw),⟨.int (ns.idxOf y:Nat),H,I.tok _,⟨_,rfl⟩,q⟩⟩
 ·show WG (.str y) its[ns.idxOf y]=true
  rw [at' _ (by omega) hj]
  exact decide_eq_true (List.getElem_idxOf hj)
 ·intro j hjs hlt
  have h2:j < ns.length:=by rw [size_toArray] at hjs;omega
  show WG (.str y) its[j]=false
  rw [at' _ (by omega) h2]
  exact decide_eq_false (Zjh h2 hlt)
end
theorem ZmE {xs:List V}{i j:Nat}(h:i<=j)(hj:j<=xs.length):Xk xs (some (i:Int)) (some (j:Int))=(xs.drop i).take (j - i):=by
 unfold Xk
 rw [HT.sIx_nat,HT.sIx_nat,Jd hj,Jd (show i<=xs.length by omega)]
section
variable {X:Cx}{elt iter tg:Expr}{xa xb:Str}{pos:Pos}{scope:Scope}{wi:TI}{te:TE}{g:TG}
theorem Zfm {i:Nat}{y:Str}{py spos:Pos}(O:CompOkT X scope xa xb)(hc:X.calm=true)(hN:X.N.Nodup)(hiN:X.N[i]?=some y)(hy:Loc X.env.scope y)(hi:PI X tg iter wi)(hg:∀ cl C s₀ H₀ fp,PG (Xo X scope xa xb cl C s₀ H₀ fp) tg g)(he:∀ cl C s₀ H₀ fp,PE (Xo X scope xa xb cl C s₀ H₀ fp) elt te)
 (hsw:Rf (.ListComp elt [⟨tg,iter,[],0⟩] scope pos) (some (.Name y py)) spos.line X.env=pure true) (hf:X.fn y=true\/X.env.scope.names.lookup y=some .local:=by first | exact .inl rfl | exact .inr rfl | assumption)
 (hs:∀ v,Jw iter X.env v=pure v:=by intro _;rfl):PS X (.Assign [.Name y py] (.ListComp elt [⟨tg,iter,[],0⟩] scope pos) spos) (ZdU (ZiD wi g te) (Zah i)):=by
 intro pins s σ H D I h
 obtain ⟨cl,hcl,cl1,cl2⟩:=Uj (scope:=scope) (env:=X.env) fun y hy hf=>I.ok.has _ (O.clos y hy hf)
 rw [OH _ _ _ _ hsw]
 refine Qd (GC (Qd ?_))
 show Qr _ X.A (do let _ <- comprehension (.ListComp elt [⟨tg,iter,[],0⟩] scope pos) scope X.env _ (MQ []) false (eval iter X.env) (some (Pk (.Name y py) X.env))) _ _ s
 refine Qd (QY (GZ (use:=some (Pk (.Name y py) X.env)) (Q:=fun _ s'=>SP X pins D .next s') rfl hs hcl O.kind O.names
  (Zt (hi pins s σ H _ I h) fun v s1 h1=>Zt h1 fun itv s2 h2=>?_)) (fun _ s' hq=>Qk (Qk hq)) fun _ _ e=>e)
 obtain ⟨it,fp,tn,J,H2,e,I2,T,st2,f2,q⟩:=h2
 subst e
 refine Zbf (RR:=fun acc C=>NU (QA X.prog X.w) X.A X.xe (some (Pk (.Name y py) X.env)) (fun _ s'=>SP X pins D .next s') acc C) O hc cl1 cl2 hg he I2 T st2 f2 q ?_
 intro Dl C H' s' I' ⟨g0,g1,g2,g3,g4,g5⟩ ⟨m,hm⟩ hq
 show Qr _ X.A (Pk (.Name y py) X.env (.ref Dl)) _ _ _
 refine Ry (ZaA I' hN hiN hy (v:=.ref Dl) rfl (fun s'' I'' ⟨a,sb,ha⟩=>?_) hf)
 have haC:C≠a:=by
  rcases ha with z | z
  ·rw [z];exact g1
  ·exact fun z'=>g4 y a z z'.symm
 exact ⟨m,hm.sameBut sb haC,fun h' hs'=>⟨_,H',I''.turned (t':=s''.toks) (fun b o hb e=>(hs'.2 b hb).trans e) g0 g1 g3 g4 g5,hq⟩⟩
end
end L2
namespace K69
open PySem L2
abbrev ZS:Str:=Qa "value"
def Ym (w k:Str):Option V:=if k="value" then Uh w else if Xd w=true then some (.str w) else none
def Wl (ws ks:List Str):Nat:=ks.idxOf ZS+1+ws.length - ks.length
def Yr (ws ks:List Str):List Str :=
 if ZS ∉ ks\/ws.length<=ks.length then ws
 else ws.take (ks.idxOf ZS)++[QM " " ((ws.drop (ks.idxOf ZS)).take (Wl ws ks - ks.idxOf ZS))]++ws.drop (Wl ws ks)
def Xx (ws ks:List Str):List V:=List.zipWith (fun w k=>(Ym w k).getD .non) (Yr ws ks) ks
def Yt (ws ks:List Str):Option (List V):=if (Yr ws ks).length=ks.length then (if YL .non (Xx ws ks)=true then none else some (Xx ws ks)) else none
theorem Zht (w k:Str):WL ((Ym w k).getD .non)=true:=by
 unfold Ym Uh
 split
 ·split
  ·split<;>rfl
  ·cases Xu w 30<;>rfl
 ·split<;>rfl
def Fits (ws:List Str):Prop:=(ws.map (·.length)).sum+ws.length<=100000
theorem Zga {ws zs:List Str}(s:zs.Sublist ws):(zs.map (·.length)).sum<=(ws.map (·.length)).sum:=by
 induction s with
 | slnil=>exact Qh _
 | cons a _ ih=>rw [map_cons,sum_cons];omega
 | cons_cons a _ ih=>rw [map_cons,map_cons,sum_cons,sum_cons];omega
theorem Fits.sub {ws zs:List Str}(h:Fits ws)(s:zs.Sublist ws):Fits zs:=by
 have h1:=s.length_le
 have h2:=Zga s
 unfold Fits at h ⊢;omega
theorem Fits.at {ws:List Str}(h:Fits ws):∀ w∈ws,w.length<=100000:=by
 induction ws with
 | nil=>intro w hw;cases hw
 | cons a r ih =>
  have h':a.length+(r.map (·.length)).sum+(r.length+1)<=100000:=by unfold Fits at h;rw [map_cons,sum_cons,length_cons] at h;exact h
  intro w hw
  rcases mem_cons.mp hw with rfl | hw
  ·omega
  ·exact ih (by unfold Fits;omega) w hw
theorem Zkm {ws ks:List Str}(h:Fits ws):∀ w∈Yr ws ks,w.length<=100000:=by
 intro w hw
 unfold Yr at hw
 split at hw
 ·exact h.at w hw
 ·rcases mem_append.mp hw with hw | hw
  ·rcases mem_append.mp hw with hw | hw
   ·exact h.at w (mem_of_mem_take hw)
   ·rw [mem_singleton.mp hw,tj]
    have f2:=h.sub ((Ph (Wl ws ks - ks.idxOf ZS) _).trans (TW (ks.idxOf ZS) ws))
    have:=WY " " ((ws.drop (ks.idxOf ZS)).take (Wl ws ks - ks.idxOf ZS))
    unfold Fits at f2
    rw [show (Qa " ").length=1 by decide +kernel] at this
    omega
  ·exact h.at w (JC hw)
section
variable {P:Qm}{w:QC}{K:Qb}{mg:Str->Option Qe}{base:Heap}{tl t3 t4:Tok}
def spPF:Sp:=fun vs H Q _=>∃ w k:Str,vs=[.str w,.str k]/\w.length<=100000/\∀ H',Same H H'->Q ((Ym w k).getD .non) H'
abbrev nPf:List Str:=["word","kind"]
abbrev Zjt:List Str:=["word","kind"]
theorem scPf:ZB nPf Zjt (Zl s_part_from):=⟨rfl,rfl,rfl,by decide +kernel,rfl,by decide +kernel,by decide +kernel⟩
theorem Zlk {f:Addr}{fd:Qq}(F:Fun K "part_from" "part_from" s_part_from f fd)(T:Ya mg)(DVf:Def P w K mg base 3 "value_from" Zkd spVF)(DNn:Def P w K mg base 3 "is_name" ZkO (Zgk Xd)):FnOk P w K mg base Yc 4 f fd Zjt spPF:=by
 refine F.ok scPf (fun vs H Q E h=>?_) (fun cdv A outer s H vs Q E hr h=>?_)
 ·obtain ⟨x,_,rfl,_⟩:=h;rfl
 obtain ⟨x,k,rfl,hx,q⟩:=h
 refine' ⟨?t,?h,?r⟩
 case h =>
  conv=>arg 2;whnf
  with_reducible refine' (Zf (ZT ?h1 (Zh ?h2) ZI) (Zh ?h3))
  case h1=>exact ZA Xb (pv 1) Zk (ZC _)
  case h2=>exact Zo (Zu DVf hr (Zb (pv 0) Za))
  case h3=>exact Zo (Yv (Yo (Zu DNn hr (Zb (pv 0) Za))) (pv 0) YQ)
 refine ⟨_,rfl,rfl,_,rfl,?_⟩
 by_cases hk:k="value"
 ·rw [decide_eq_true (by rw [hk])]
  refine Zx ⟨_,rfl,x,rfl,hx,fun H1 s1=>?_⟩
  have:=q H1 s1
  unfold Ym at this
  rw [if_pos hk] at this
  cases e:Uh x with
  | none=>rw [e] at this;exact this
  | some v=>rw [e] at this;exact this
 ·rw [decide_eq_false (fun z=>hk (by injection z))]
  refine Zw ⟨_,rfl,x,rfl,hx,fun H1 s1=>⟨Xd x,rfl,?_⟩⟩
  have:=q H1 s1
  unfold Ym at this
  rw [if_neg hk] at this
  cases e:Xd x with
  | true=>rw [e,if_pos rfl] at this;exact Zx ⟨_,rfl,this⟩
  | false=>rw [e,if_neg (by decide)] at this;exact Zw this
def spWW:Sp:=fun vs H Q _=>∃(a b:Addr)(ws ks:List Str),vs=[.ref a,.ref b]/\H a=some (.lst (ws.map V.str))/\H b=some (.lst (ks.map V.str))/\Fits ws/\ks.length<=10/\∀ l H',Same H H'->H' l=some (.lst ((Yr ws ks).map V.str))->Q (.ref l) H'
abbrev nWw:List Str:=["words","kinds","at","end"]
abbrev Zkj:List Str:=["words","kinds"]
theorem scWw:ZB nWw Zkj (Zl s_whole_words):=⟨rfl,rfl,rfl,by decide +kernel,rfl,by decide +kernel,by decide +kernel⟩
theorem ZjD {f:Addr}{fd:Qq}(F:Fun K "whole_words" "whole_words" s_whole_words f fd)(T:Ya mg):FnOk P w K mg base Yc 1 f fd Zkj spWW:=by
 refine F.ok scWw (fun vs H Q E h=>?_) (fun cdv A outer s H vs Q E hr h=>?_)
 ·obtain ⟨a,b,_,_,rfl,_⟩:=h;rfl
 obtain ⟨a,b,ws,ks,rfl,ea,eb,hf,hks,q⟩:=h
 refine' ⟨?t,?h,?r⟩
 case h =>
  conv=>arg 2;whnf
  with_reducible refine' (Zf (ZT ?h1 (Zh ?h2) ZI) (Zf ?h3 (Zf ?h4 (Zh ?h5))))
  case h1=>exact PW.pt (Xt (ZA Vi Zk (pv 1) rfl) (Wg (ZA UD (Zm ZP rfl T.len Qu (Zb (pv 0) Za)) (Zm ZP rfl T.len Qu (Zb (pv 1) Za)) (ZC _))))
  case h2=>exact Zo (pv 0)
  case h3=>exact Zr (i:=2) scWw.nd rfl (Qy rfl) (ZU QG To Ob Zda (pv 1) (Zb Zk Za))
  case h4=>exact Zr (i:=3) scWw.nd rfl (Qy rfl) (Zj Xh (Zj ZO (Zj ZO (pv 2) Zc) (Zm ZP rfl T.len Qu (Zb (pv 0) Za))) (Zm ZP rfl T.len Qu (Zb (pv 1) Za)))
  case h5=>exact Zo (Zj Yi (Zj Yi (Zs ZX (pv 0) Zz (Zv (pv 2))) (ZH (Zb (ZU Qo QT QU Xp Zk (Zb (Zs ZX (pv 0) (Zv (pv 2)) (Zv (pv 3))) Za)) Za))) (Zs ZX (pv 0) (Zv (pv 3)) Zz))
 have hl:ws.length<=100000:=by unfold Fits at hf;omega
 have ein:YL (.str ZS) (ks.map V.str)=decide (ZS∈ks):=by
  unfold YL
  rw [List.any_map,Jc,List.any_eq_true,decide_eq_true_eq]
  constructor
  ·rintro ⟨k,hk,e⟩
   have:k=ZS:=by simpa [Ul] using e
   rw [<- this];exact hk
  ·intro hk;exact ⟨ZS,hk,by simp [Ul]⟩
 refine ⟨_,rfl,b,_,rfl,.inl (SqL.of eb),rfl,Zax _,_,rfl,?_⟩
 rw [ein]
 by_cases c1:ZS∈ks
 ·rw [decide_eq_true c1]
  refine Zw ⟨_,rfl,a,_,rfl,.inl (SqL.of ea),_,rfl,b,_,rfl,.inl (SqL.of eb),_,_,rfl,rfl,_,rfl,?_⟩
  rw [length_map,length_map]
  by_cases c2:(ws.length:Int)<=(ks.length:Int)
  ·rw [decide_eq_true c2]
   exact Zx ⟨_,rfl,q a H (Same.refl H) (by unfold Yr;rw [if_pos (.inr (by omega))];exact ea)⟩
  ·rw [decide_eq_false c2]
   have hix:ks.idxOf ZS < ks.length:=RP.mpr c1
   refine Zw ⟨_,rfl,.inl ⟨rfl,_,SqL.of eb⟩,b,ks,_,rfl,rfl,SqL.of eb,c1,by omega,?_⟩
   refine ⟨_,rfl,_,_,rfl,rfl,_,rfl,a,_,rfl,.inl (SqL.of ea),_,_,rfl,rfl,_,rfl,b,_,rfl,.inl (SqL.of eb),_,_,rfl,rfl,?_⟩
   rw [length_map,length_map]
   have ee:((ks.idxOf ZS:Nat):Int)+1+(ws.length:Int) - (ks.length:Int)=((Wl ws ks:Nat):Int):=by unfold Wl;omega
   have hat:ks.idxOf ZS<=Wl ws ks/\Wl ws ks<=ws.length:=by unfold Wl;omega
   dsimp only
   rw [ee]
   refine ⟨_,rfl,?_⟩
   dsimp only [YR]
   refine ⟨_,rfl,_,rfl,a,_,rfl,SqL.of ea,fun p1 hp1=>?_⟩
   have s1:=Zg hp1 (.lst (Xk (ws.map V.str) none (some ((ks.idxOf ZS:Nat):Int))))
   have e1:upd H p1 (.lst (Xk (ws.map V.str) none (some ((ks.idxOf ZS:Nat):Int)))) p1=_:=Ze
   generalize upd H p1 (.lst (Xk (ws.map V.str) none (some ((ks.idxOf ZS:Nat):Int))))=H1 at s1 e1 ⊢
   refine ⟨rfl,_,rfl,_,rfl,_,rfl,_,rfl,_,rfl,a,_,rfl,SqL.of (s1 _ _ ea),fun p2 hp2=>?_⟩
   have s2:=Zg hp2 (.lst (Xk (ws.map V.str) (some ((ks.idxOf ZS:Nat):Int)) (some ((Wl ws ks:Nat):Int))))
   have e2:upd H1 p2 (.lst (Xk (ws.map V.str) (some ((ks.idxOf ZS:Nat):Int)) (some ((Wl ws ks:Nat):Int)))) p2=_:=Ze
   generalize upd H1 p2 (.lst (Xk (ws.map V.str) (some ((ks.idxOf ZS:Nat):Int)) (some ((Wl ws ks:Nat):Int))))=H2 at s2 e2 ⊢
   rw [Vf,<- map_take] at e1
   rw [ZmE hat.1 (by rw [length_map];exact hat.2),<- Su,<- map_take] at e2
   have fm:Fits ((ws.drop (ks.idxOf ZS)).take (Wl ws ks - ks.idxOf ZS)):=hf.sub ((Ph _ _).trans (TW _ _))
   have hmid:QM " " ((ws.drop (ks.idxOf ZS)).take (Wl ws ks - ks.idxOf ZS))=QM (Qa " ") ((ws.drop (ks.idxOf ZS)).take (Wl ws ks - ks.idxOf ZS)):=rfl
   dsimp only [Xf]
   refine ⟨" ",p2,_,rfl,rfl,SqL.of e2,?_,(by show 1<=Qi;decide),fun p3 hp3=>?_⟩
   ·unfold Fits at fm
    rw [show (Qa " ").length=1 by decide +kernel];omega
   have s3:=Zg hp3 (.lst [V.str (QM " " ((ws.drop (ks.idxOf ZS)).take (Wl ws ks - ks.idxOf ZS)))])
   have e3:upd H2 p3 (.lst [V.str (QM " " ((ws.drop (ks.idxOf ZS)).take (Wl ws ks - ks.idxOf ZS)))]) p3=_:=Ze
   generalize upd H2 p3 (.lst [V.str (QM " " ((ws.drop (ks.idxOf ZS)).take (Wl ws ks - ks.idxOf ZS)))])=H3 at s3 e3 ⊢
   have h13:=(s2.trans s3) _ _ e1
   refine ⟨p1,p3,_,_,rfl,rfl,h13,e3,Zp (show _<=100000 by rw [length_map,length_take,length_singleton];omega),fun p4 hp4=>?_⟩
   have s4:=Zg hp4 (.lst ((ws.take (ks.idxOf ZS)).map V.str++[V.str (QM " " ((ws.drop (ks.idxOf ZS)).take (Wl ws ks - ks.idxOf ZS)))]))
   have e4:upd H3 p4 (.lst ((ws.take (ks.idxOf ZS)).map V.str++[V.str (QM " " ((ws.drop (ks.idxOf ZS)).take (Wl ws ks - ks.idxOf ZS)))])) p4=_:=Ze
   generalize upd H3 p4 (.lst ((ws.take (ks.idxOf ZS)).map V.str++[V.str (QM " " ((ws.drop (ks.idxOf ZS)).take (Wl ws ks - ks.idxOf ZS)))]))=H4 at s4 e4 ⊢
   have s14:=((s1.trans s2).trans s3).trans s4
   refine ⟨_,rfl,_,rfl,_,rfl,a,_,rfl,SqL.of (s14 _ _ ea),fun p5 hp5=>?_⟩
   rw [Zai,<- Su]
   have s5:=Zg hp5 (.lst ((ws.drop (Wl ws ks)).map V.str))
   refine ⟨p4,p5,_,_,rfl,rfl,s5 _ _ e4,Ze,Zp (show _<=100000 by rw [length_append,length_map,length_map,length_take,length_drop,length_singleton];omega),fun p6 hp6=>q p6 _ ((s14.trans s5).trans (Zg hp6 _)) ?_⟩
   rw [Ze]
   unfold Yr
   rw [if_neg (by rintro (z | z);exact z c1;omega)]
   simp
 ·rw [decide_eq_false c1]
  exact Zx ⟨_,rfl,q a H (Same.refl H) (by unfold Yr;rw [if_pos (.inl c1)];exact ea)⟩
def spPs:Sp:=fun vs H Q _=>∃(a b:Addr)(ws ks:List Str),vs=[.ref a,.ref b]/\H a=some (.lst (ws.map V.str))/\H b=some (.lst (ks.map V.str))/\Fits ws/\ks.length<=10/\(Yt ws ks=none->∀ H',Same H H'->Q .non H')/\(∀ vs,Yt ws ks=some vs->∀ l H',Same H H'->H' l=some (.lst vs)->Q (.ref l) H')
abbrev nPs:List Str:=["words","kinds","whole","parts"]
abbrev ZkQ:List Str:=["words","kinds"]
theorem scPs:ZB nPs ZkQ (Zl s_parts_from):=⟨rfl,rfl,rfl,by decide +kernel,rfl,by decide +kernel,by decide +kernel⟩
theorem Zkq {f:Addr}{fd:Qq}(F:Fun K "parts_from" "parts_from" s_parts_from f fd)(T:Ya mg)(DWw:Def P w K mg base 4 "whole_words" Zkj spWW)(DPf:Def P w K mg base 4 "part_from" Zjt spPF):FnOk P w K mg base Yc 5 f fd ZkQ spPs:=by
 refine F.ok scPs (fun vs H Q E h=>?_) (fun cdv A outer s H vs Q E hr h=>?_)
 ·obtain ⟨a,b,_,_,rfl,_⟩:=h;rfl
 obtain ⟨a,b,ws,ks,rfl,ea,eb,hf,hks,q1,q2⟩:=h
 refine' ⟨?t,?h,?r⟩
 case h =>
  conv=>arg 2;whnf
  with_reducible refine' (Zf ?h1 (Zf (ZT ?h2 (Zh ?h3) ZI) (Zf ?h4 (Zh ?h5))))
  case h1=>exact Zr (i:=2) scPs.nd rfl (Qy rfl) (Zu DWw hr (Zb (pv 0) (Zb (pv 1) Za)))
  case h2=>exact ZA WK (Zm ZP rfl T.len Qu (Zb (pv 2) Za)) (Zm ZP rfl T.len Qu (Zb (pv 1) Za)) (ZC _)
  case h3=>exact Zo YQ
  case h4=>exact Zfm (i:=3) (xa:="word") (xb:="kind") (CompOkT.of nPs s_parts_from rfl rfl (by decide +kernel)) rfl scPs.nd rfl (Qy rfl) (Zjk rfl T.zip (pv 2) (pv 1)) (fun _ _ _ _ _=>Zgb (K:=K) rfl rfl (ZM (i:=4) (show (UR nPs "word" "kind"++(["word","kind"]:List Str)).Nodup by decide +kernel) rfl (Qy rfl) (Rn rfl)) (ZM (i:=5) (show (UR nPs "word" "kind"++(["word","kind"]:List Str)).Nodup by decide +kernel) rfl (Qy rfl) (Rn rfl)))  (fun _ _ _ _ _=>Zu DPf hr (Zb (pv 4) (Zb (pv 5) Za))) rfl
  case h5=>exact Zo (Yv (ZA Wo YQ (pv 3) rfl) YQ (pv 3))
 refine ⟨_,rfl,_,rfl,a,b,ws,ks,rfl,ea,eb,hf,hks,fun l H1 s1 el=>?_⟩
 refine ⟨_,rfl,l,_,rfl,.inl (SqL.of el),_,rfl,b,_,rfl,.inl (SqL.of (s1 _ _ eb)),rfl,_,rfl,?_⟩
 rw [length_map,length_map]
 by_cases c1:(Yr ws ks).length=ks.length
 ·rw [decide_eq_true (by rw [c1])]
  refine Zw ⟨_,rfl,_,rfl,l,b,_,_,rfl,el,s1 _ _ eb,fun D hD=>?_⟩
  have hkl:ks.length<=100000:=by omega
  refine Zdy (K:=K) (xs:=(Yr ws ks).map V.str) (zs:=ks.map V.str) (Zp (show _<=100000 by rw [length_map];omega)) (by rw [length_map,length_map,c1]) (fun i ys H'=>Same H H'/\H' D=some (.lst ys)/\ys=(Xx ws ks).take i/\i<=ks.length/\H' l=some (.lst ((Yr ws ks).map V.str))) ⟨(s1.trans (Zg hD _)),Ze,by rw [take_zero],Qp _,Zg hD _ _ _ el⟩ ?_ ?_ ?_
  ·rintro i ys H' ⟨s2,_,rfl,hi,el2⟩
   have:(Xx ws ks).length=ks.length:=by unfold Xx;rw [SO,c1,Mb]
   exact ⟨by rw [length_take,this];omega,SqL.of el2,SqL.of (s2 _ _ eb)⟩
  ·rintro i x z t ys H' wa wb hx hz ht ⟨s2,eD,rfl,hi,el2⟩
   rw [getElem?_map] at hx hz
   obtain ⟨u,eu,rfl⟩:=QD.mp hx
   obtain ⟨k,ek,rfl⟩:=QD.mp hz
   have s3:=Zg ht (.tup [.str u,.str k])
   refine ⟨t,_,rfl,SqT.of Ze,rfl,_,_,rfl,_,_,rfl,rfl,⟨_,_,rfl⟩,_,rfl,_,rfl,u,k,rfl,Zkm hf u (mem_of_getElem? eu),fun H4 s4=>?_⟩
   have hlD:l≠D:=fun z=>by rw [z,hD] at el;cases el
   refine ⟨s4 _ _ (s3 _ _ eD),fun c o e=>?_,Ze,?_,(Ql.mp ek).1,?_⟩
   ·rw [Zn (ZL (s1 _ _ e) hD)];exact s4 _ _ (s3 _ _ (s2 _ _ e))
   ·rw [take_add_one]
    congr 1
    unfold Xx
    rw [List.getElem?_zipWith,eu,ek];rfl
   ·rw [Zn hlD];exact s4 _ _ (s3 _ _ el2)
  ·rintro ys H' ⟨s2,eD,rfl,hi,el2⟩
   have hpl:(Xx ws ks).length=(Yr ws ks).length:=by unfold Xx;rw [SO,c1,Mb]
   rw [length_map,<- hpl,take_length] at eD
   refine ⟨_,rfl,D,_,rfl,.inl (SqL.of eD),rfl,?_,_,rfl,?_⟩
   ·unfold Xx
    rw [all_eq_true]
    intro v hv
    obtain ⟨i,hi,rfl⟩:=List.getElem_of_mem hv
    rw [List.getElem_zipWith]
    exact Zht _ _
   ·show if YL .non (Xx ws ks)=true then _ else _
    cases e:YL .non (Xx ws ks) with
    | true=>exact Zx (q1 (by unfold Yt;rw [if_pos c1,e,if_pos rfl]) H' s2)
    | false=>exact Zw ⟨_,rfl,q2 _ (by unfold Yt;rw [if_pos c1,e,if_neg (by decide)]) D H' s2 eD⟩
 ·rw [decide_eq_false (fun z=>c1 (by injection z with z;omega))]
  exact Zx (q1 (by unfold Yt;rw [if_neg c1]) H1 s1)
def unS:V->Str
 | .str x=>x
 | _=>""
theorem ZmN {x:Str}{xs:List V}(h:Xm x=some xs):xs=(xs.map unS).map V.str/\xs.length<=3:=by
 unfold Xm at h
 obtain ⟨ys,e,rfl⟩:=QD.mp h
 have all:∀ p∈Wc,(p.2.filter fun v=>!decide (v=.str "program"))=((p.2.filter fun v=>!decide (v=.str "program")).map unS).map V.str:=by decide +kernel
 have mem:∀ (D:List (Str×List V)),QO x D=some ys->∃ p∈D,p.2=ys:=by
  intro D
  induction D with
  | nil=>intro h;cases h
  | cons p D ih =>
   intro h
   rw [QO] at h
   split at h
   ·cases h;exact ⟨p,mem_cons_self,rfl⟩
   ·obtain ⟨q,hq,e⟩:=ih h;exact ⟨q,mem_cons_of_mem _ hq,e⟩
 obtain ⟨p,hp,rfl⟩:=mem _ e
 exact ⟨all p hp,Qw (length_filter_le _ _) (Zcp e).1⟩
def WM (row:Str):Option (List V):=match QF row (Qa " ") with
 | []=>none
 | w0::ws=>match Xm w0 with
  | none=>none
  | some xs=>(Yt ws (xs.map unS)).map (V.str w0::·)
theorem ZiL {ws ks:List Str}{vs:List V}(h:Yt ws ks=some vs):vs.length=ks.length:=by
 unfold Yt at h
 split at h
 ·rename_i c
  split at h
  ·cases h
  ·cases h;unfold Xx;rw [SO,c,Mb]
 ·cases h
theorem XQ {H H':Hp}{p:Addr}(s:Same H H')(h:H' p=none):H p=none:=by
 cases e:H p with
 | none=>rfl
 | some o=>rw [s _ _ e] at h;cases h
def ZeB:Sp:=fun vs H Q _=>∃ row:Str,vs=[.str row]/\row.length<=90000/\(WM row=none->∀ H',Same H H'->Q .non H')/\(∀ hs,WM row=some hs->∀ a H',Same H H'->H a=none->H' a=some (.tup hs)->Q (.ref a) H')
abbrev nHf:List Str:=["row","word","words","parts"]
abbrev Zha:List Str:=["row"]
theorem scHf:ZB nHf Zha (Zl s_head_from):=⟨rfl,rfl,rfl,by decide +kernel,rfl,by decide +kernel,by decide +kernel⟩
theorem Zli {f:Addr}{fd:Qq}(F:Fun K "head_from" "head_from" s_head_from f fd)(T:Ya mg)(DKi:Def P w K mg base 5 "kinds_of" Zem (ZaX K))(DKR:Def P w K mg base 5 "kinds_in_row" Zhl (ZkB K))(DPs:Def P w K mg base 5 "parts_from" ZkQ spPs):FnOk P w K mg base Yc 6 f fd Zha ZeB:=by
 refine F.ok scHf (fun vs H Q E h=>?_) (fun cdv A outer s H vs Q E hr h=>?_)
 ·obtain ⟨a,rfl,_⟩:=h;rfl
 obtain ⟨row,rfl,hr0,q1,q2⟩:=h
 refine' ⟨?t,?h,?r⟩
 case h =>
  conv=>arg 2;whnf
  with_reducible refine' (Zf ?h1 (Zf (ZT ?h2 (Zh ?h3) ZI) (Zf ?h4 (Zh ?h5))))
  case h1=>exact Uk (ZU Qo QX Gu Wn (pv 0) (Zb Zk Za)) (ZmY rfl (ZM (i:=1) scHf.nd rfl (Qy rfl)) (ZM (i:=2) scHf.nd rfl (Qy rfl)))
  case h2=>exact Wu (Ui (Zu DKi hr (Zb (pv 1) Za)))
  case h3=>exact Zo YQ
  case h4=>exact Zr (i:=3) scHf.nd rfl (Qy rfl) (Zu DPs hr (Zb (pv 2) (Zb (Zu DKR hr (Zb (pv 1) Za)) Za)))
  case h5=>exact Zo (Yv (Wu (Ui (pv 3))) YQ (Zj ZcK (ZV (Zb (pv 1) Za)) (Yw We rfl T.tuple (by decide +kernel) (Zb (pv 3) Za))))
 refine ⟨_,rfl,rfl,row,_,rfl,rfl,(by decide +kernel),by omega,fun l hl=>?_⟩
 have hw:=PP row (Qa " ") (by decide +kernel)
 unfold WM at q1 q2
 cases e:QF row (Qa " ") with
 | nil=>exact absurd e (XB _ _)
 | cons w0 ws =>
  rw [e] at hw q1 q2
  simp only [map_cons,sum_cons,length_cons] at hw
  have hfit:Fits ws:=by unfold Fits;omega
  refine ⟨l,.str w0,ws.map V.str,rfl,SqL.of Ze,by rw [length_map];omega,fun D hD=>?_⟩
  have s0:Same H (upd (upd H l (.lst ((w0::ws).map V.str))) D (.lst (ws.map V.str))):=(Zg hl _).trans (Zg hD _)
  have eD:upd (upd H l (.lst ((w0::ws).map V.str))) D (.lst (ws.map V.str)) D=_:=Ze
  generalize upd (upd H l (.lst ((w0::ws).map V.str))) D (.lst (ws.map V.str))=H1 at s0 eD ⊢
  refine ⟨_,rfl,w0,rfl,fun b xs e1 e2=>?_,fun e1=>?_⟩
  ·refine ⟨_,rfl,Zw ?_⟩
   have hk:Xm w0=some (xs.filter fun v=>!decide (v=.str "program")):=by unfold Xm;rw [e1];rfl
   obtain ⟨k1,k2⟩:=ZmN hk
   simp only [hk] at q1 q2
   generalize (xs.filter fun v=>!decide (v=V.str "program"))=zs at hk k1 k2 q1 q2
   refine ⟨_,rfl,_,rfl,w0,zs,rfl,hk,fun l2 H2 s2 hl2 el2=>?_⟩
   rw [k1] at el2
   refine ⟨D,l2,ws,zs.map unS,rfl,s2 _ _ eD,el2,hfit,by rw [length_map];omega,fun e3 H3 s3=>?_,fun vs e3 l3 H3 s3 el3=>?_⟩
   ·refine ⟨_,rfl,_,rfl,Zx (q1 (by rw [e3];rfl) H3 ((s0.trans s2).trans s3))⟩
   ·refine ⟨_,rfl,_,rfl,Zw ?_⟩
    have hvl:vs.length<=3:=by rw [ZiL e3,length_map];exact k2
    have s3':=(s0.trans s2).trans s3
    refine ⟨_,rfl,(by show 1<=Qi;decide),fun p1 hp1=>?_⟩
    have s4:=Zg hp1 (.tup [V.str w0])
    refine ⟨_,rfl,l3,vs,rfl,.inl ⟨SqL.of (s4 _ _ el3),fun p2 hp2=>?_⟩⟩
    have s5:=Zg hp2 (.tup vs)
    refine ⟨p1,p2,[.str w0],vs,rfl,rfl,SqT.of (s5 _ _ Ze),SqT.of Ze,by simp,Zp (show _<=100000 by rw [length_singleton];omega),fun hv=>?_,fun hv p3 hp3=>?_⟩
    ·subst hv
     exact q2 _ (by rw [e3];rfl) p1 _ ((s3'.trans s4).trans s5) (XQ s3' hp1) (s5 _ _ Ze)
    ·exact q2 _ (by rw [e3];rfl) p3 _ (((s3'.trans s4).trans s5).trans (Zg hp3 _)) (XQ ((s3'.trans s4).trans s5) hp3) Ze
  ·have hk:Xm w0=none:=by unfold Xm;rw [e1];rfl
   simp only [hk] at q1
   exact ⟨_,rfl,Zx (q1 trivial H1 s0)⟩
end
def _root_.L2.Pg.vl:Pg->List V
 | .set x v s=>[.str x,v,.str s]
 | .look x=>[.str x]
 | .slot _ s=>[.str s]
 | .pass=>[]
 | .blk _ _=>[]
 | .inn s _=>[.str s]
def _root_.L2.Pg.hv (p:Pg):List V:=.str p.word::p.vl
theorem Zdl {x:Str}(h:Yg x){c:Nat}(hc:US c=false):c ∉ x.cps.toList:=fun m=>by
 have:=all_eq_true.mp h.2.2 c m
 rw [hc] at this;cases this
theorem Ud {x:Str}(h:Yg x):QF x (Qa " ")=[x]:=by rw [Uq];exact Zau (Zdl h (by decide))
theorem Zin {p : Pg}(h:p.ok):QF p.word (Qa " ")=[p.word]:=by
 rw [Uq]
 refine Zau ?_
 cases p with
 | set x v s=>exact (show (32:Nat) ∉ (Qa "set").cps.toList by decide +kernel)
 | look x=>exact (show (32:Nat) ∉ (Qa "look").cps.toList by decide +kernel)
 | slot w s => rcases h.1 with rfl | rfl
               · exact (show (32:Nat) ∉ (Qa "back").cps.toList by decide +kernel)
               · exact (show (32:Nat) ∉ (Qa "copy").cps.toList by decide +kernel)
 | pass=>exact (show (32:Nat) ∉ (Qa "pass").cps.toList by decide +kernel)
 | blk w ps => rcases h.1 with rfl | rfl
               · exact (show (32:Nat) ∉ (Qa "begin").cps.toList by decide +kernel)
               · exact (show (32:Nat) ∉ (Qa "late").cps.toList by decide +kernel)
 | inn s ps=>exact (show (32:Nat) ∉ (Qa "in").cps.toList by decide +kernel)
theorem Zpq {p : Pg}(h:p.ok):Xm p.word=some (p.ks.map V.str):=by
 cases p with
 | set x v s=>exact (show Xm "set"=some ((["name","value","slot"]:List Str).map V.str) by decide +kernel)
 | look x=>exact (show Xm "look"=some ((["name"]:List Str).map V.str) by decide +kernel)
 | slot w s => rcases h.1 with rfl | rfl
               · exact (show Xm "back"=some ((["slot"]:List Str).map V.str) by decide +kernel)
               · exact (show Xm "copy"=some ((["slot"]:List Str).map V.str) by decide +kernel)
 | pass=>exact (show Xm "pass"=some (([]:List Str).map V.str) by decide +kernel)
 | blk w ps => rcases h.1 with rfl | rfl
               · exact (show Xm "begin"=some (([]:List Str).map V.str) by decide +kernel)
               · exact (show Xm "late"=some (([]:List Str).map V.str) by decide +kernel)
 | inn s ps=>exact (show Xm "in"=some ((["slot"]:List Str).map V.str) by decide +kernel)
theorem Znb (ks:List Str):(ks.map V.str).map unS=ks:=by rw [Ou];exact List.map_id' ks
theorem UK {x k:Str}(h:Yg x)(hk:k≠ZS):Ym x k=some (.str x):=by unfold Ym;rw [if_neg hk,if_pos (Zcl h)]
theorem Zav {x k:Str}(h:Yg x)(hk:k≠ZS):Yt [x] [k]=some [.str x]:=by
 have hw:Yr [x] [k]=[x]:=by unfold Yr;rw [if_pos (.inr (Qh _))]
 unfold Yt Xx
 rw [hw,if_pos (show [x].length=[k].length from rfl)]
 show (if YL .non [(Ym x k).getD .non]=true then none else some [(Ym x k).getD .non])=_
 rw [UK h hk];rfl
theorem vl_ne:(Qa "name")≠ZS/\(Qa "slot")≠ZS:=⟨by decide +kernel,by decide +kernel⟩
theorem Zih {x s:Str}{v:V}(hx:Yg x)(hv:IsVal v)(hs:Yg s):Yt (x::(QF (Yk v) (Qa " ")++[s])) [Qa "name",ZS,Qa "slot"]=some [.str x,v,.str s]:=by
 have hj:QM " " (QF (Yk v) (Qa " "))=Yk v:=by rw [tj];exact GB _ _
 have hne:=XB (Yk v) (Qa " ")
 generalize QF (Yk v) (Qa " ")=sv at hj hne
 have hix:([Qa "name",ZS,Qa "slot"]:List Str).idxOf ZS=1:=by decide +kernel
 have hmem:ZS∈([Qa "name",ZS,Qa "slot"]:List Str):=by decide +kernel
 have hw : Yr (x::(sv++[s])) [Qa "name",ZS,Qa "slot"]=[x,Yk v,s]:=by
  unfold Yr Wl
  rw [hix]
  by_cases c:(x::(sv++[s])).length<=3
  ·rw [if_pos (.inr c)]
   cases sv with
   | nil=>exact absurd rfl hne
   | cons a r =>
    cases r with
    | nil =>
     have:a=Yk v:=by rw [tj] at hj;exact hj
     rw [this];rfl
    | cons b r=>simp at c
  ·rw [if_neg (by rintro (z | z);exact z hmem;exact c z)]
   have hl:1+1+(x::(sv++[s])).length - [Qa "name",ZS,Qa "slot"].length=sv.length+1:=by simp;omega
   rw [hl]
   simp only [Nm,take_zero,drop_succ_cons,drop_zero,NF]
   rw [List.take_left,OW,hj];rfl
 unfold Yt Xx
 rw [hw,if_pos (show [x,Yk v,s].length=[Qa "name",ZS,Qa "slot"].length from rfl)]
 show (if YL .non [(Ym x (Qa "name")).getD .non,(Ym (Yk v) ZS).getD .non,(Ym s (Qa "slot")).getD .non]=true then none else some _)=_
 have e2:Ym (Yk v) ZS=some v:=by unfold Ym;rw [if_pos rfl];exact ZiM hv
 simp only [UK hx vl_ne.1,UK hs vl_ne.2,e2,Sn]
 have hn:Ul v .non=false:=by
  cases v with
  | int i=>rfl
  | str y=>rfl
  | _=>exact hv.elim
 rw [if_neg]
 ·show some [(Ym x (Qa "name")).getD .non,(Ym (Yk v) ZS).getD .non,(Ym s (Qa "slot")).getD .non]=_
  rw [UK hx vl_ne.1,UK hs vl_ne.2,e2];rfl
 ·show ¬ (Ul (.str x) .non || (Ul v .non || (Ul (.str s) .non || false)))=true
  rw [hn];exact Qv
theorem Uv {p:Pg}(h:p.ok):WM p.srow=some p.hv:=by
 have hs:QF p.srow (Qa " ")=p.word::p.ws.flatMap fun w=>QF w (Qa " "):=by
  unfold Pg.srow
  rw [tj,Uq,Zfo (by simp),flatMap_cons,<- Uq,Zin h];rfl
 unfold WM
 rw [hs]
 simp only [Zpq h,Znb]
 show (Yt _ p.ks).map _=_
 cases p with
 | set x v s =>
  have e:(Pg.set x v s).ws.flatMap (fun w=>QF w (Qa " "))=x::(QF (Yk v) (Qa " ")++[s]):=by
   show QF x _++(QF (Yk v) _++(QF s _++[]))=_
   rw [Ud h.1,Ud h.2.2];rfl
  rw [e]
  show (Yt _ [Qa "name",ZS,Qa "slot"]).map _=_
  rw [Zih h.1 h.2.1 h.2.2];rfl
 | look x =>
  show (Yt (QF x _++[]) [Qa "name"]).map _=_
  rw [Ud h,append_nil,Zav h vl_ne.1];rfl
 | slot w s =>
  show (Yt (QF s _++[]) [Qa "slot"]).map _=_
  rw [Ud h.2,append_nil,Zav h.2 vl_ne.2];rfl
 | pass=>rfl
 | blk w ps=>rfl
 | inn s ps =>
  show (Yt (QF s _++[]) [Qa "slot"]).map _=_
  rw [Ud h.1,append_nil,Zav h.1 vl_ne.2];rfl
def XD (l:Nat)(r:Str):Str:=⟨(QI (2 * l) 32++r.cps.toList).toArray⟩
def ZY (x:Nat×Pg):Str:=XD x.1 x.2.srow
mutual
def YE (d:Nat):Pg->List (Nat×Pg)
 | .blk w ps=>(d,.blk w ps)::YB (d+1) ps
 | .inn s ps=>(d,.inn s ps)::YB (d+1) ps
 | .set x v s=>[(d,.set x v s)]
 | .look x=>[(d,.look x)]
 | .slot w s=>[(d,.slot w s)]
 | .pass=>[(d,.pass)]
def YB (d:Nat):List Pg->List (Nat×Pg)
 | []=>[]
 | p::ps=>YE d p++YB d ps
end
theorem ZoG (d:Nat)(p:Pg):YE d p=(d,p)::YB (d+1) p.inner:=by cases p<;>simp [YE,Pg.inner,YB]
theorem Va (l:Nat)(r:Str):UT (XD l r)=XD (l+1) r:=by
 apply ZZ
 show ((Qa "  ")++XD l r).cps.toList=_
 rw [Xl,show (Qa "  ").cps.toList=[32,32] by decide +kernel]
 show [32,32]++(QI (2 * l) 32++r.cps.toList)=QI (2 * (l+1)) 32++r.cps.toList
 rw [show 2 * (l+1)=2 * l+1+1 by omega,replicate_succ,replicate_succ];rfl
theorem UB (r:Str):XD 0 r=r:=ZZ (by show QI 0 32++_=_;rfl)
mutual
theorem Zoz:∀(d:Nat)(p:Pg),(YE (d+1) p).map ZY=((YE d p).map ZY).map UT
 | d,.blk w ps=>by
  have ih:=VH (d+1) ps
  rw [YE,YE,map_cons,map_cons,map_cons,ih]
  congr 1;exact (Va d _).symm
 | d,.inn s ps=>by
  have ih:=VH (d+1) ps
  rw [YE,YE,map_cons,map_cons,map_cons,ih]
  congr 1;exact (Va d _).symm
 | d,.set x v s=>by rw [YE,YE];show [XD (d+1) _]=[UT (XD d _)];rw [Va]
 | d,.look x=>by rw [YE,YE];show [XD (d+1) _]=[UT (XD d _)];rw [Va]
 | d,.slot w s=>by rw [YE,YE];show [XD (d+1) _]=[UT (XD d _)];rw [Va]
 | d,.pass=>by rw [YE,YE];show [XD (d+1) _]=[UT (XD d _)];rw [Va]
theorem VH:∀(d:Nat)(ps:List Pg),(YB (d+1) ps).map ZY=((YB d ps).map ZY).map UT
 | d,[]=>rfl
 | d,p::ps=>by
  have h1:=Zoz d p
  have h2:=VH d ps
  rw [YB,YB,map_append,map_append,map_append,h1,h2]
end
mutual
theorem Zoj:∀ p:Pg,rws p=(YE 0 p).map ZY
 | .blk w ps=>by
  have ih:=Ux ps
  rw [Wd,YE,map_cons,VH 0,<- ih]
  rw [show ZY (0,Pg.blk w ps)=_ from UB _];rfl
 | .inn s ps=>by
  have ih:=Ux ps
  rw [Wd,YE,map_cons,VH 0,<- ih]
  rw [show ZY (0,Pg.inn s ps)=_ from UB _];rfl
 | .set x v s=>by rw [YE];show [Pg.srow _]=[XD 0 _];rw [UB]
 | .look x=>by rw [YE];show [Pg.srow _]=[XD 0 _];rw [UB]
 | .slot w s=>by rw [YE];show [Pg.srow _]=[XD 0 _];rw [UB]
 | .pass=>by rw [YE];show [Pg.srow _]=[XD 0 _];rw [UB]
theorem Ux:∀ ps:List Pg,ZN ps=(YB 0 ps).map ZY
 | []=>rfl
 | p::ps=>by
  have h1:=Zoj p
  have h2:=Ux ps
  rw [YB,map_append,<- h1,<- h2];rfl
end
def Xr:Nat->List (Nat×Pg)->Prop
 | _,[]=>True
 | m,(l,p)::r=>l<=m/\Xr (if p.isB=true then l+1 else l) r
def Dm:List (Nat×Pg)->Nat->List Pg
 | [],_=>[]
 | (l,p)::r,k=>if k=l then p::Dm r l else if k=l+1/\p.isB=true then [] else Dm r k
def Wf:List (Nat×Pg)->Prop
 | []=>True
 | (l,p)::r=>(p.isB=true->Dm r (l+1)=p.inner)/\Wf r
mutual
theorem Zof:∀(p:Pg)(d m:Nat)(S:List (Nat×Pg)),d<=m->(∀ m',d<=m'->Xr m' S)->Xr m (YE d p++S)
 | .blk w ps,d,m,S,h,hS=>by rw [YE];exact ⟨h,ZaT ps (d+1) (d+1) S (Qh _) fun m' h'=>hS m' (by omega)⟩
 | .inn s ps,d,m,S,h,hS=>by rw [YE];exact ⟨h,ZaT ps (d+1) (d+1) S (Qh _) fun m' h'=>hS m' (by omega)⟩
 | .set x v s,d,m,S,h,hS=>by rw [YE];exact ⟨h,hS d (Qh _)⟩
 | .look x,d,m,S,h,hS=>by rw [YE];exact ⟨h,hS d (Qh _)⟩
 | .slot w s,d,m,S,h,hS=>by rw [YE];exact ⟨h,hS d (Qh _)⟩
 | .pass,d,m,S,h,hS=>by rw [YE];exact ⟨h,hS d (Qh _)⟩
theorem ZaT:∀(ps:List Pg)(d m:Nat)(S:List (Nat×Pg)),d<=m->(∀ m',d<=m'->Xr m' S)->Xr m (YB d ps++S)
 | [],d,m,S,h,hS=>hS m h
 | p::ps,d,m,S,h,hS=>by
  rw [YB,append_assoc]
  exact Zof p d m _ h fun m' h'=>ZaT ps d m' S h' hS
end
mutual
theorem ZnY:∀(p:Pg)(d:Nat)(S:List (Nat×Pg)),(∀ k,d < k->Dm S k=[])->Wf S->(∀ k,Dm (YE d p++S) k=if k=d then p::Dm S d else Dm S k)/\Wf (YE d p++S)
 | .blk w ps,d,S,h,hW=>by
  obtain ⟨h1,h2⟩:=ZaY ps (d+1) S (fun k hk=>h k (by omega)) hW
  rw [YE]
  have e1:=h1 (d+1)
  rw [if_pos rfl,h (d+1) (by omega),append_nil] at e1
  refine ⟨fun k=>?_,fun _=>e1,h2⟩
  show (if k=d then _::Dm (YB (d+1) ps++S) d else if k=d+1/\_ then [] else Dm (YB (d+1) ps++S) k)=_
  by_cases c:k=d
  ·rw [if_pos c,if_pos c,h1 d,if_neg (by omega)]
  ·rw [if_neg c,if_neg c]
   by_cases c2:k=d+1
   ·rw [if_pos ⟨c2,rfl⟩,c2,h (d+1) (by omega)]
   ·rw [if_neg (fun z=>c2 z.1),h1 k,if_neg c2]
 | .inn s ps,d,S,h,hW=>by
  obtain ⟨h1,h2⟩:=ZaY ps (d+1) S (fun k hk=>h k (by omega)) hW
  rw [YE]
  have e1:=h1 (d+1)
  rw [if_pos rfl,h (d+1) (by omega),append_nil] at e1
  refine ⟨fun k=>?_,fun _=>e1,h2⟩
  show (if k=d then _::Dm (YB (d+1) ps++S) d else if k=d+1/\_ then [] else Dm (YB (d+1) ps++S) k)=_
  by_cases c:k=d
  ·rw [if_pos c,if_pos c,h1 d,if_neg (by omega)]
  ·rw [if_neg c,if_neg c]
   by_cases c2:k=d+1
   ·rw [if_pos ⟨c2,rfl⟩,c2,h (d+1) (by omega)]
   ·rw [if_neg (fun z=>c2 z.1),h1 k,if_neg c2]
 | .set x v s,d,S,h,hW=>by rw [YE];exact ⟨fun k=>by show (if k=d then _ else if k=d+1/\false=true then [] else Dm S k)=_;rw [if_neg (show ¬ (k=d+1/\false=true) from fun z=>nomatch z.2)];rfl,(show Wf ((d,_)::S) from ⟨fun z=>absurd z Qv,hW⟩)⟩
 | .look x,d,S,h,hW=>by rw [YE];exact ⟨fun k=>by show (if k=d then _ else if k=d+1/\false=true then [] else Dm S k)=_;rw [if_neg (show ¬ (k=d+1/\false=true) from fun z=>nomatch z.2)];rfl,(show Wf ((d,_)::S) from ⟨fun z=>absurd z Qv,hW⟩)⟩
 | .slot w s,d,S,h,hW=>by rw [YE];exact ⟨fun k=>by show (if k=d then _ else if k=d+1/\false=true then [] else Dm S k)=_;rw [if_neg (show ¬ (k=d+1/\false=true) from fun z=>nomatch z.2)];rfl,(show Wf ((d,_)::S) from ⟨fun z=>absurd z Qv,hW⟩)⟩
 | .pass,d,S,h,hW=>by rw [YE];exact ⟨fun k=>by show (if k=d then _ else if k=d+1/\false=true then [] else Dm S k)=_;rw [if_neg (show ¬ (k=d+1/\false=true) from fun z=>nomatch z.2)];rfl,(show Wf ((d,_)::S) from ⟨fun z=>absurd z Qv,hW⟩)⟩
theorem ZaY:∀(ps:List Pg)(d:Nat)(S:List (Nat×Pg)),(∀ k,d < k->Dm S k=[])->Wf S->(∀ k,Dm (YB d ps++S) k=if k=d then ps++Dm S d else Dm S k)/\Wf (YB d ps++S)
 | [],d,S,h,hW=>⟨fun k=>by by_cases c:k=d<;>simp [YB,c],hW⟩
 | p::ps,d,S,h,hW=>by
  obtain ⟨h1,h2⟩:=ZaY ps d S h hW
  obtain ⟨h3,h4⟩:=ZnY p d (YB d ps++S) (fun k hk=>by rw [h1 k,if_neg (by omega)];exact h k hk) h2
  rw [YB,append_assoc]
  refine ⟨fun k=>?_,h4⟩
  rw [h3 k]
  by_cases c:k=d
  ·rw [if_pos c,if_pos c,h1 d,if_pos rfl];rfl
  ·rw [if_neg c,if_neg c,h1 k,if_neg c]
end
theorem ZfR (ps:List Pg):Dm (YB 0 ps) 0=ps/\Wf (YB 0 ps)/\Xr 0 (YB 0 ps):=by
 obtain ⟨h1,h2⟩:=ZaY ps 0 [] (fun _ _=>rfl) trivial
 have h3:=ZaT ps 0 0 [] (Qh _) fun _ _=>trivial
 rw [append_nil] at h1 h2 h3
 exact ⟨by rw [h1 0,if_pos rfl];exact append_nil _,h2,h3⟩
mutual
theorem ZmK:∀(p:Pg)(d:Nat),p.ok->∀ x∈YE d p,x.2.ok/\x.1<=d+p.hgt
 | .blk w ps,d,h,x,hx=>by
  rw [YE] at hx
  rcases mem_cons.mp hx with rfl | hx
  ·exact ⟨h,Gp _ _⟩
  ·have:=Uw ps (d+1) h.2 x hx
   exact ⟨this.1,by show _<=d+(Pg.hgts ps+1);omega⟩
 | .inn s ps,d,h,x,hx=>by
  rw [YE] at hx
  rcases mem_cons.mp hx with rfl | hx
  ·exact ⟨h,Gp _ _⟩
  ·have:=Uw ps (d+1) h.2 x hx
   exact ⟨this.1,by show _<=d+(Pg.hgts ps+1);omega⟩
 | .set x v s,d,h,y,hx=>by rw [YE] at hx;rw [mem_singleton.mp hx];exact ⟨h,Gp _ _⟩
 | .look x,d,h,y,hx=>by rw [YE] at hx;rw [mem_singleton.mp hx];exact ⟨h,Gp _ _⟩
 | .slot w s,d,h,y,hx=>by rw [YE] at hx;rw [mem_singleton.mp hx];exact ⟨h,Gp _ _⟩
 | .pass,d,h,y,hx=>by rw [YE] at hx;rw [mem_singleton.mp hx];exact ⟨h,Gp _ _⟩
theorem Uw:∀(ps:List Pg)(d:Nat),Pg.oks ps->∀ x∈YB d ps,x.2.ok/\x.1<=d+Pg.hgts ps
 | [],d,h,x,hx=>(nomatch hx)
 | p::ps,d,h,x,hx=>by
  rw [YB] at hx
  have e:Pg.hgts (p::ps)=max p.hgt (Pg.hgts ps):=rfl
  rcases mem_append.mp hx with hx | hx
  ·have:=ZmK p d h.1 x hx;exact ⟨this.1,by omega⟩
  ·have:=Uw ps d h.2 x hx;exact ⟨this.1,by omega⟩
end
theorem ZbB (ps:List Pg):(YB 0 ps).length=Pg.manys ps:=by
 have h:=congrArg JT (Ux ps)
 rw [length_map,Xg] at h;exact h.symm
end K69
namespace L2
open PySem
def rdQ:List Nat->Option (List Nat×List Nat)
 | []=>none
 | k :: r=>if k=39 then some ([],r) else if k=92 then (match r with
     | []=>none
     | c::q=>if c=39\/c=92 then (rdQ q).map fun z=>(c::z.1,z.2) else none)
   else (rdQ r).map fun z=>(k::z.1,z.2)
theorem XU (k:Nat)(r:List Nat):rdQ (k::r)=(if k=39 then some ([],r) else if k=92 then (match r with
 | []=>none
 | c::q=>if c=39\/c=92 then (rdQ q).map fun z=>(c::z.1,z.2) else none)
 else (rdQ r).map fun z=>(k::z.1,z.2)):=by rw [rdQ.eq_def]
theorem ZcY:∀(l r:List Nat),rdQ (YN l++39::r)=some (l,r)
 | [],r=>by show rdQ (39::r)=_;rw [XU,if_pos rfl]
 | k :: l,r=>by
  have ih:=ZcY l r
  have e:YN (k::l)=(if k=39\/k=92 then [92,k] else [k])++YN l:=rfl
  rw [e]
  by_cases h:k=39\/k=92
  ·rw [if_pos h]
   show rdQ (92::k::(YN l++39::r))=_
   rw [XU,if_neg (by decide),if_pos rfl]
   show (if k=39\/k=92 then _ else none)=_
   rw [if_pos h,ih];rfl
  ·rw [if_neg h]
   show rdQ (k::(YN l++39::r))=_
   rw [XU,if_neg (fun z=>h (.inl z)),if_neg (fun z=>h (.inr z)),ih];rfl
theorem Zbn:∀(n:Nat)(x l r:List Nat),x.length<=n->rdQ x=some (l,r)->x=YN l++39::r
 | _,[],_,_,_,h=>by rw [rdQ.eq_def] at h;cases h
 | 0,_::_,_,_,hn,_=>absurd hn (by simp)
 | n + 1,k::x,l,r,hn,h=>by
  have hn:x.length<=n:=by simpa using hn
  rw [XU] at h
  replace h:(if k=39 then some ([],x) else if k=92 then (match x with | []=>none | c::q=>if c=39\/c=92 then (rdQ q).map fun z=>(c::z.1,z.2) else none) else (rdQ x).map fun z=>(k::z.1,z.2))=some (l,r):=h
  by_cases h1:k=39
  ·rw [if_pos h1] at h;cases h;rw [h1];rfl
  ·rw [if_neg h1] at h
   by_cases h2:k=92
   ·rw [if_pos h2] at h
    cases x with
    | nil=>cases h
    | cons c q =>
     replace h:(if c=39\/c=92 then (rdQ q).map fun z=>(c::z.1,z.2) else none)=some (l,r):=h
     by_cases h3:c=39\/c=92
     ·rw [if_pos h3] at h
      obtain ⟨⟨a,b⟩,e,f⟩:=QD.mp h
      cases f
      have ih:=Zbn n q a b (by simp at hn;omega) e
      rw [ih,h2]
      show _=(if c=39\/c=92 then [92,c] else [c])++YN a++39::b
      rw [if_pos h3];rfl
     ·rw [if_neg h3] at h;cases h
   ·rw [if_neg h2] at h
    obtain ⟨⟨a,b⟩,e,f⟩:=QD.mp h
    cases f
    have ih:=Zbn n x a b hn e
    rw [ih]
    show _=(if k=39\/k=92 then [92,k] else [k])++YN a++39::b
    rw [if_neg (fun z=>z.elim h1 h2)];rfl
theorem rdQ_iff {x l r:List Nat}:rdQ x=some (l,r)↔x=YN l++39::r:=⟨Zbn _ x l r (Qh _),fun h=>by rw [h];exact ZcY l r⟩
theorem Zit {cs:List Nat}{k:Nat}(h:TV cs)(hl:cs.length<=k):TM cs < 10 ^ k:=by
 have:=Zhe cs 0 h
 rw [Ma,Nat.one_mul] at this
 exact QB this (Sz (by decide) hl)
theorem Zkw {w:Str}{k:Nat}(hk:k<=300)(h1:1<=(Yu w).length)(h2:(Yu w).length<=k)(h3:(Yu w).all XR=true):∃ n:Int,Pr w=some n/\n.natAbs < 10 ^ k:=by
 unfold Yu at h1 h2 h3
 have hl:w.length=w.cps.toList.length:=Zq w
 split at h1
 ·rename_i hh
  rw [if_pos hh] at h2 h3
  cases e:w.cps.toList with
  | nil=>rw [e] at hh;cases hh
  | cons a r =>
   rw [e] at hh h1 h2 h3 hl
   cases hh
   have hl:w.length=r.length+1:=hl
   simp only [drop_succ_cons,drop_zero] at h1 h2 h3
   exact ⟨_,RE e (Wi h3) (by rintro rfl;simp at h1) (by omega),by rw [Int.natAbs_neg,Tk];exact Zit (Wi h3) h2⟩
 ·rename_i hh
  rw [if_neg hh] at h2 h3
  exact ⟨_,SD (Wi h3) (by intro z;rw [z] at h1;simp at h1) (by omega),by rw [Tk];exact Zit (Wi h3) h2⟩
theorem Zdp {w:Str}{k:Nat}{i:Int}(hk:k<=300)(h:Xu w k=some i):Qa (Gn i)=w/\i.natAbs < 10 ^ k:=by
 unfold Xu at h
 split at h
 ·rename_i c
  split at h
  ·rename_i c2
   cases h
   obtain ⟨n,e,hn⟩:=Zkw hk c.1 c.2.1 c.2.2
   rw [e] at c2 ⊢
   exact ⟨c2,hn⟩
  ·cases h
 ·cases h
theorem Zjn {w:Str}{v:V}(h:Uh w=some v):IsVal v/\w=Yk v:=by
 unfold Uh at h
 split at h
 ·split at h
  ·rename_i c
   cases h
   exact ⟨⟨c.1,c.2.1⟩,c.2.2.symm⟩
  ·cases h
 ·obtain ⟨i,e,rfl⟩:=QD.mp h
  obtain ⟨a,b⟩:=Zdp (by decide) e
  exact ⟨b,a.symm⟩
end L2
namespace K69
open PySem L2
theorem Zaa {x:Str}(h:Xd x=true):Yg x:=by
 unfold Xd at h
 simp only [QL,decide_eq_true_eq] at h
 exact ⟨h.1.1,h.1.2,h.2⟩
theorem ZaJ {x k:Str}{v:V}(hk:k≠ZS)(h:Ym x k=some v):Yg x/\v=.str x:=by
 unfold Ym at h
 rw [if_neg hk] at h
 split at h
 ·rename_i c;cases h;exact ⟨Zaa c,rfl⟩
 ·cases h
theorem ZiN:∀{vs:List V},YL .non vs=false->∀ v∈vs,v≠.non
 | x::r,h,v,hv=>by
  have h:(Ul x .non || YL .non r)=false:=h
  rw [Ps] at h
  rcases mem_cons.mp hv with rfl | hv
  ·intro z;rw [z] at h;exact absurd h.1 (by decide)
  ·exact ZiN h.2 v hv
theorem ZmD {x:Str}{xs:List V}(h:Xm x=some xs):(x="set"/\xs.map unS=[Qa "name",ZS,Qa "slot"])\/(x="look"/\xs.map unS=[Qa "name"])\/((x="back"\/x="copy")/\xs.map unS=[Qa "slot"])\/((x="begin"\/x="late")/\xs.map unS=[])\/(x="in"/\xs.map unS=[Qa "slot"])\/(x="pass"/\xs.map unS=[]):=by
 unfold Xm Wc at h
 obtain ⟨ys,e,rfl⟩:=QD.mp h
 simp only [QO,decide_eq_true_eq] at e
 split at e
 ·rename_i c;cases e;exact .inl ⟨c,by decide +kernel⟩
 split at e
 ·rename_i c;cases e;exact .inr (.inl ⟨c,by decide +kernel⟩)
 split at e
 ·rename_i c;cases e;exact .inr (.inr (.inl ⟨.inl c,by decide +kernel⟩))
 split at e
 ·rename_i c;cases e;exact .inr (.inr (.inr (.inl ⟨.inl c,by decide +kernel⟩)))
 split at e
 ·rename_i c;cases e;exact .inr (.inr (.inr (.inl ⟨.inr c,by decide +kernel⟩)))
 split at e
 ·rename_i c;cases e;exact .inr (.inr (.inl ⟨.inr c,by decide +kernel⟩))
 split at e
 ·rename_i c;cases e;exact .inr (.inr (.inr (.inr (.inl ⟨c,by decide +kernel⟩))))
 split at e
 ·rename_i c;cases e;exact .inr (.inr (.inr (.inr (.inr ⟨c,by decide +kernel⟩))))
 ·cases e
theorem ZiV {ws:List Str}{vs:List V}(h:Yt ws []=some vs):ws=[]/\vs=[]:=by
 have hw:Yr ws []=ws:=by unfold Yr;rw [if_pos (.inl (by simp))]
 unfold Yt Xx at h
 rw [hw] at h
 split at h
 ·rename_i c
  have:ws=[]:=eq_nil_of_length_eq_zero c
  subst this
  split at h
  ·cases h
  ·cases h;exact ⟨rfl,rfl⟩
 ·cases h
theorem ZeF {ws:List Str}{k:Str}{vs:List V}(hk:k≠ZS)(h:Yt ws [k]=some vs):∃ x,ws=[x]/\Yg x/\vs=[.str x]:=by
 have hw:Yr ws [k]=ws:=by unfold Yr;rw [if_pos (.inl (by simp;exact fun z=>hk z.symm))]
 unfold Yt Xx at h
 rw [hw] at h
 split at h
 ·rename_i c
  match ws,c with
  | [x],_ =>
   replace h:(if YL .non [(Ym x k).getD .non]=true then none else some [(Ym x k).getD .non])=some vs:=h
   split at h
   ·cases h
   ·rename_i c2
    cases e:Ym x k with
    | none=>rw [e] at c2;exact absurd rfl c2
    | some v =>
     rw [e] at h
     obtain ⟨h1,rfl⟩:=ZaJ hk e
     cases h;exact ⟨x,rfl,h1,rfl⟩
 ·cases h
theorem Zng {ws:List Str}{vs:List V}(h:Yt ws [Qa "name",ZS,Qa "slot"]=some vs):∃ x v s,Yg x/\IsVal v/\Yg s/\vs=[.str x,v,.str s]/\QM " " ws=QM " " [x,Yk v,s]:=by
 have hix:([Qa "name",ZS,Qa "slot"]:List Str).idxOf ZS=1:=by decide +kernel
 have hmem:ZS∈([Qa "name",ZS,Qa "slot"]:List Str):=by decide +kernel
 have fin:∀ x y s:Str,Yr ws [Qa "name",ZS,Qa "slot"]=[x,y,s]->QM " " ws=QM " " [x,y,s]->∃ x v s,Yg x/\IsVal v/\Yg s/\vs=[.str x,v,.str s]/\QM " " ws=QM " " [x,Yk v,s]:=by
  intro x y s hw hj
  unfold Yt Xx at h
  rw [hw,if_pos (show [x,y,s].length=[Qa "name",ZS,Qa "slot"].length from rfl)] at h
  replace h:(if YL .non [(Ym x (Qa "name")).getD .non,(Ym y ZS).getD .non,(Ym s (Qa "slot")).getD .non]=true then none else some [(Ym x (Qa "name")).getD .non,(Ym y ZS).getD .non,(Ym s (Qa "slot")).getD .non])=some vs:=h
  split at h
  ·cases h
  ·rename_i c2
   have hn:=ZiN (Bool.not_eq_true _ ▸ c2)
   cases e1:Ym x (Qa "name") with
   | none=>exact absurd (by rw [e1];rfl) (hn _ (mem_cons_self ..))
   | some v1 =>
    cases e2:Ym y ZS with
    | none=>exact absurd (by rw [e2];rfl) (hn _ (mem_cons_of_mem _ (mem_cons_self ..)))
    | some v2 =>
     cases e3:Ym s (Qa "slot") with
     | none=>exact absurd (by rw [e3];rfl) (hn _ (mem_cons_of_mem _ (mem_cons_of_mem _ (mem_cons_self ..))))
     | some v3 =>
      rw [e1,e2,e3] at h
      obtain ⟨h1,rfl⟩:=ZaJ vl_ne.1 e1
      obtain ⟨h3,rfl⟩:=ZaJ vl_ne.2 e3
      have e2:Uh y=some v2:=by unfold Ym at e2;rwa [if_pos rfl] at e2
      obtain ⟨h2,rfl⟩:=Zjn e2
      cases h
      exact ⟨x,v2,s,h1,h2,h3,rfl,hj⟩
 have hlen:(Yr ws [Qa "name",ZS,Qa "slot"]).length=3:=by
  unfold Yt at h
  split at h
  ·rename_i c;exact c
  ·cases h
 by_cases c:ws.length<=3
 ·have hw:Yr ws [Qa "name",ZS,Qa "slot"]=ws:=by unfold Yr;rw [if_pos (.inr c)]
  rw [hw] at hlen
  match ws,hlen with
  | [x,y,s],_=>exact fin x y s hw rfl
 ·cases ws with
  | nil=>simp at c
  | cons x r =>
   have hr:r≠[]:=by rintro rfl;simp at c
   obtain ⟨mid,s,rfl⟩:∃ mid s,r=mid++[s]:=⟨r.dropLast,r.getLast hr,(List.dropLast_concat_getLast hr).symm⟩
   have hm:mid≠[]:=by rintro rfl;simp at c
   refine fin x (QM " " mid) s ?_ ?_
   ·unfold Yr Wl
    rw [hix,if_neg (by rintro (z | z);exact z hmem;exact c z)]
    have hl:1+1+(x::(mid++[s])).length - [Qa "name",ZS,Qa "slot"].length=mid.length+1:=by simp;omega
    rw [hl]
    simp only [Nm,take_zero,drop_succ_cons,drop_zero,NF]
    rw [List.take_left,OW];rfl
   ·rw [tj,tj,tj,Uq]
    rw [show x::(mid++[s])=[x]++(mid++[s]) from rfl,Ut (by simp) (by simp),Ut hm (by simp)]
    rfl
theorem ZaN {row:Str}{hs:List V}(h:WM row=some hs):∃ p:Pg,p.ok/\p.inner=[]/\row=p.srow/\hs=p.hv:=by
 have hj:QM " " (QF row (Qa " "))=row:=by rw [tj];exact GB _ _
 unfold WM at h
 generalize QF row (Qa " ")=sw at h hj
 match sw,h,hj with
 | w0 :: ws,h,hj =>
  replace h:(match Xm w0 with | none=>none | some xs=>(Yt ws (xs.map unS)).map (V.str w0::·))=some hs:=h
  cases e:Xm w0 with
  | none=>rw [e] at h;cases h
  | some xs =>
   rw [e] at h
   obtain ⟨vs,ev,rfl⟩:=QD.mp h
   rcases ZmD e with ⟨rfl,k⟩ | ⟨rfl,k⟩ | ⟨hw,k⟩ | ⟨hw,k⟩ | ⟨rfl,k⟩ | ⟨rfl,k⟩
   ·rw [k] at ev
    obtain ⟨x,v,s,h1,h2,h3,rfl,h4⟩:=Zng ev
    refine ⟨.set x v s,⟨h1,h2,h3⟩,rfl,?_,rfl⟩
    have hne:ws≠[]:=by
     rintro rfl
     unfold Yt Yr at ev
     simp at ev
    rw [<- hj]
    show QM " " (Qa "set"::ws)=QM " " (Qa "set"::[x,Yk v,s])
    rw [tj,tj,Uq] at h4 ⊢
    rw [show Qa "set"::ws=[Qa "set"]++ws from rfl,show Qa "set"::[x,Yk v,s]=[Qa "set"]++[x,Yk v,s] from rfl,Ut (by simp) hne,Ut (by simp) (by simp),h4]
   ·rw [k] at ev
    obtain ⟨x,rfl,h1,rfl⟩:=ZeF vl_ne.1 ev
    exact ⟨.look x,h1,rfl,hj.symm,rfl⟩
   ·rw [k] at ev
    obtain ⟨x,rfl,h1,rfl⟩:=ZeF vl_ne.2 ev
    exact ⟨.slot w0 x,⟨hw,h1⟩,rfl,hj.symm,rfl⟩
   ·rw [k] at ev
    obtain ⟨rfl,rfl⟩:=ZiV ev
    exact ⟨.blk w0 [],⟨hw,trivial⟩,rfl,hj.symm,rfl⟩
   ·rw [k] at ev
    obtain ⟨x,rfl,h1,rfl⟩:=ZeF vl_ne.2 ev
    exact ⟨.inn x [],⟨h1,trivial⟩,rfl,hj.symm,rfl⟩
   ·rw [k] at ev
    obtain ⟨rfl,rfl⟩:=ZiV ev
    exact ⟨.pass,trivial,rfl,hj.symm,rfl⟩
end K69
namespace L2
open PySem
def ZE:List Nat->List Nat×Option (List Nat)
 | []=>([],none)
 | c::r=>if c=32 then ([],some r) else (c::(ZE r).1,(ZE r).2)
theorem VN:∀{a:List Nat}(r:List Nat),(32:Nat) ∉ a->ZE (a++32::r)=(a,some r)
 | [],r,_=>by show (if (32:Nat)=32 then _ else _)=_;rw [if_pos rfl]
 | c::a,r,h=>by
  have h1:¬ c=32:=fun z=>h (by rw [z];exact mem_cons_self ..)
  have ih:=VN r (fun z=>h (mem_cons_of_mem _ z):(32:Nat) ∉ a)
  show (if c=32 then _ else (c::(ZE (a++32::r)).1,(ZE (a++32::r)).2))=_
  rw [if_neg h1,ih]
theorem XS:∀ x:List Nat,(32:Nat) ∉ (ZE x).1/\((ZE x).2=none->x=(ZE x).1)/\∀ r,(ZE x).2=some r->x=(ZE x).1++32::r
 | []=>⟨(fun h=>nomatch h),(fun _=>rfl),(fun _ h=>nomatch h)⟩
 | c :: x=>by
  obtain ⟨h1,h2,h3⟩:=XS x
  have e:ZE (c::x)=if c=32 then ([],some x) else (c::(ZE x).1,(ZE x).2):=rfl
  rw [e]
  by_cases h:c=32
  ·rw [if_pos h];exact ⟨(fun h=>nomatch h),(fun h=>nomatch h),(fun r hr=>by cases hr;rw [h];rfl)⟩
  ·rw [if_neg h]
   refine ⟨fun m=>?_,fun z=>congrArg (c::·) (h2 z),fun r hr=>congrArg (c::·) (h3 r hr)⟩
   rcases mem_cons.mp m with z | z
   ·exact h z.symm
   ·exact h1 z
def Zy (l:List Nat):Str:=⟨l.toArray⟩
theorem Xz (l:List Nat):(Zy l).cps.toList=l:=rfl
theorem c_ofC (x:Str):Zy x.cps.toList=x:=ZZ rfl
def Wp (x:List Nat):Option (V×List Nat) :=
 match x with
 | []=>none
 | c :: t=>if c=39 then (match rdQ t with
     | some (l,r)=>if l.length<=40/\l.all Yz=true then some (.str (Zy l),r) else none
     | none=>none)
   else (Xu (Zy (ZE (c::t)).1) 30).map fun i=>(.int i,(c::t).drop (ZE (c::t)).1.length)
theorem ZhN (t:List Nat):Wp (39::t)=(match rdQ t with | some (l,r)=>if l.length<=40/\l.all Yz=true then some (V.str (Zy l),r) else none | none=>none):=by
 unfold Wp;dsimp only;rw [if_pos rfl]
theorem Zif {c:Nat}(t:List Nat)(h:¬ c=39):Wp (c::t)=(Xu (Zy (ZE (c::t)).1) 30).map fun i=>(V.int i,(c::t).drop (ZE (c::t)).1.length):=by
 unfold Wp;dsimp only;rw [if_neg h]
theorem Zdi {x r:List Nat}{v:V}(h:Wp x=some (v,r)):IsVal v/\x=(Yk v).cps.toList++r:=by
 unfold Wp at h
 split at h
 ·cases h
 ·rename_i c t
  split at h
  ·rename_i c1
   cases e:rdQ t with
   | none=>rw [e] at h;cases h
   | some z =>
    obtain ⟨l,q⟩:=z
    rw [e] at h
    replace h:(if l.length<=40/\l.all Yz=true then some (V.str (Zy l),q) else none)=some (v,r):=h
    by_cases c2:l.length<=40/\l.all Yz=true
    ·rw [if_pos c2] at h
     cases h
     refine ⟨⟨by rw [Zq];exact c2.1,c2.2⟩,?_⟩
     rw [rdQ_iff.mp e,c1]
     show _=(39::YN l++[39])++r
     simp
    ·rw [if_neg c2] at h;cases h
  ·rename_i c1
   obtain ⟨i,e,e2⟩:=QD.mp h
   cases e2
   obtain ⟨h1,h2⟩:=Zdp (by decide) e
   refine ⟨h2,?_⟩
   have e3:(Yk (.int i)).cps.toList=(ZE (c::t)).1:=by
    show (Qa (Gn i)).cps.toList=_
    rw [h1];rfl
   rw [e3]
   obtain ⟨_,b2,b3⟩:=XS (c::t)
   cases e4:(ZE (c::t)).2 with
   | none=>have:=b2 e4;rw [<- this];simp
   | some q=>have:=b3 q e4;generalize (ZE (c::t)).1=w at this;rw [this];simp
theorem Zmf {i:Int}(h:i.natAbs < 10 ^ 30):(Qa (Gn i)).cps.toList≠[]/\∀ c∈(Qa (Gn i)).cps.toList,c=45\/48<=c/\c<=57:=by
 obtain ⟨h1,_,h3,_⟩:=ZbL h
 generalize Qa (Gn i)=w at h1 h3
 unfold Yu at h1 h3
 refine ⟨fun z=>by rw [z] at h1;simp at h1,fun c hc=>?_⟩
 have dg:∀ l:List Nat,l.all XR=true->c∈l->c=45\/48<=c/\c<=57:=fun l hl hm=>by
  have:=all_eq_true.mp hl c hm
  unfold XR at this
  simp only [QL,decide_eq_true_eq] at this
  exact .inr this
 split at h3
 ·rename_i hh
  cases e:w.cps.toList with
  | nil=>rw [e] at hc;cases hc
  | cons a r =>
   rw [e] at hh hc h3
   cases hh
   rcases mem_cons.mp hc with z | z
   ·exact .inl z
   ·exact dg _ h3 z
 ·exact dg _ h3 hc
theorem Zky {v:V}(h:IsVal v)(s:List Nat):Wp ((Yk v).cps.toList++32::s)=some (v,32::s):=by
 cases v with
 | str x =>
  have e:(Yk (.str x)).cps.toList++32::s=39::(YN x.cps.toList++39::32::s):=by
   show (39::YN x.cps.toList++[39])++32::s=_
   simp
  rw [e]
  rw [ZhN,ZcY]
  show (if x.cps.toList.length<=40/\x.cps.toList.all Yz=true then some (V.str (Zy x.cps.toList),32::s) else none)=_
  rw [if_pos ⟨by rw [<- Zq];exact h.1,h.2⟩,c_ofC]
 | int i =>
  obtain ⟨h1,h2⟩:=Zmf (show i.natAbs < 10 ^ 30 from h)
  have hn:=Zfa (show i.natAbs < 10 ^ 30 from h)
  show Wp ((Qa (Gn i)).cps.toList++32::s)=_
  generalize Qa (Gn i)=w at h1 h2 hn
  have hc:ZE (w.cps.toList++32::s)=(w.cps.toList,some s):=VN s fun z=>by have:=h2 32 z;omega
  cases e:w.cps.toList with
  | nil=>exact absurd e h1
  | cons a r =>
   rw [e] at hc h2
   have ha:=h2 a (mem_cons_self ..)
   have hc:ZE (a::(r++32::s))=(a::r,some s):=hc
   show Wp (a::(r++32::s))=_
   rw [Zif _ (by omega),hc,<- e,c_ofC,hn]
   show some (V.int i,(a::(r++32::s)).drop w.cps.toList.length)=_
   rw [e,show a::(r++32::s)=(a::r)++32::s from rfl,OW]
 | _=>exact h.elim
end L2
namespace L2
open PySem PySem.Spec PyProof.Rows
section
variable {X:Cx}
theorem ZmU:MtR X "str.find" (fun x xs H Q=>∃ z y,x=.str z/\xs=[.str y]/\Q (.int (Txt.find z y)) H):=by
 intro pins s σ H x xs v us Q I rx rv h
 obtain ⟨z,y,rfl,rfl,q⟩:=h
 obtain ⟨t,rfl⟩:=rx
 obtain ⟨u,rfl,t',rfl⟩:=YU rv
 exact SC.find ⟨.int _,H,I.tok _,⟨_,rfl⟩,q⟩
end
theorem at_one {x:Str}{c i:Nat}:StrLaws.At x ⟨#[c]⟩ x.length i↔x.cps.toList[i]?=some c:=by
 unfold StrLaws.At
 rw [StrLaws.subAt_eq]
 show i+1<=x.length/\((x.cps.toList.drop i).take 1 == [c])=true↔_
 rw [StrLaws.take1_drop]
 constructor
 ·exact fun h=>h.2
 ·intro h
  refine ⟨?_,h⟩
  have:=(Ql.mp h).1
  rw [<- Zq] at this;omega
theorem ZkL (x:Str):Txt.find x (Qa " ")=match (ZE x.cps.toList).2 with | none=>-1 | some _=>((ZE x.cps.toList).1.length:Int):=by
 rw [Uq]
 obtain ⟨h1,h2,h3⟩:=XS x.cps.toList
 cases e:(ZE x.cps.toList).2 with
 | none =>
  have h2:=h2 e
  rcases find_whole x ⟨#[32]⟩ with ⟨z,_⟩ | ⟨i,_,z,_⟩
  ·exact z
  ·rw [at_one] at z
   exact absurd (h2 ▸ mem_of_getElem? z) h1
 | some r =>
  have h3:=h3 r e
  generalize (ZE x.cps.toList).1=a at h1 h3
  rcases find_whole x ⟨#[32]⟩ with ⟨_,z⟩ | ⟨i,z1,z2,z3⟩
  ·exact absurd (at_one.mpr (by rw [h3];simp)) (z a.length)
  ·rw [z1]
   rw [at_one,h3] at z2
   have:¬ i < a.length:=fun c=>by
    rw [getElem?_append_left c] at z2
    exact h1 (mem_of_getElem? z2)
   have:¬ a.length < i:=fun c=>z3 _ c (at_one.mpr (by rw [h3];simp))
   show (i:Int)=(a.length:Int)
   omega
def tPrm (P:Qm)(w:QC)(K:Qb)(mg:Str->Option Qe)(base:Heap)(k:Nat)(EE:St->XK)(i:Nat)(t:TA):TE:=fun σ H Q=>∃(f:Addr)(fd:Qq)(ps:List Str)(sp:Sp),σ[i]?=some (some (.ref f))/\FnOk P w K mg base (CX1 P w base) k f fd ps sp/\Binds K fd ps []/\Gk K (.ref f)=true/\t σ H fun vs H1=>sp vs H1 Q (EE σ)
theorem Znu {P:Qm}{w:QC}{K:Qb}{mg:Str->Option Qe}{base:Heap}{X:Cx}{EE:St->XK}{k i:Nat}{x:Str}{p pos:Pos}{e:Expr}{es:List Expr}{t:TA}(h1:X.prog=P)(h2:X.w=w)(h3:X.K=K)(h4:X.mg=mg)(h5:X.base=base)(W:VY X EE)(hr:Room k X.A)(hN:X.N[i]?=some x)(hv:Vis X.env.scope x)(ha:PA X (e::es) t)(hd:(x == ("__debug__":Str))=false:=by decide)(hcd:(x == ("__classdict__":Str))=false:=by decide)
 (he:QH (e::es) X.env=(false,eval e X.env)::QH es X.env:=by rfl) (hpl:(Jp pos (QH es X.env)).any (·.1)=false:=by rfl):PE X (.Call (.Name x p) (e::es) [] pos) (tPrm P w K mg base k EE i t):=by
 subst h1 h2 h3 h4 h5
 intro pins s σ H Q I h
 obtain ⟨f,fd,ps,sp,e0,F,b,kp,h⟩:=h
 refine Gc (Zt (ZhA (pos:=p) hN hv hd hcd pins s σ H (fun v H1=>v=.ref f/\H1=H) I ⟨_,e0,rfl,rfl⟩) fun u s1 ⟨v,H1,I1,r,e1,e2⟩=>?_)
 subst e1;subst e2
 obtain rfl:u=Qz f:=r
 refine JX (h₀:=X.base) I1.ok.mod.kin kp (Zt (ha pos pins s1 σ H1 _ I1 h) fun us s2 ⟨vs,H2,I2,r,q⟩=>⟨I2.kIn,?_⟩) he hpl
 exact Zfv W F hr b I2 r q
end L2
namespace K69
open PySem L2
def ZjM:Option (List Nat)->V
 | none=>.non
 | some r=>.str (Zy r)
def XH (x:List Nat):Option (List V) :=
 if Zy x="begin"\/Zy x="late"\/Zy x="pass" then some [.str (Zy x)]
 else match (ZE x).2 with
   | none=>none
   | some r =>
     if (Zy (ZE x).1="look"\/Zy (ZE x).1="back"\/Zy (ZE x).1="copy"\/Zy (ZE x).1="in")/\Xd (Zy r)=true then some [.str (Zy (ZE x).1),.str (Zy r)]
     else if Zy (ZE x).1="set" then match (ZE r).2 with
       | none=>none
       | some t=>if Xd (Zy (ZE r).1)=true then match Wp t with
           | none=>none
           | some (v,q)=>if q.head?=some 32/\Xd (Zy (q.drop 1))=true then some [.str "set",.str (Zy (ZE r).1),v,.str (Zy (q.drop 1))] else none
         else none
     else none
theorem ZmS {x:Str}{l:List Nat}(h:x.cps.toList=l):Zy l=x:=by rw [<- h];exact c_ofC x
theorem row2 (a b:Str):(QM " " [a,b]).cps.toList=a.cps.toList++32::b.cps.toList:=by rw [tj,Uq,Yf];rfl
theorem row4 (a b c d:Str):(QM " " [a,b,c,d]).cps.toList=a.cps.toList++32::(b.cps.toList++32::(c.cps.toList++32::d.cps.toList)):=by rw [tj,Uq,Yf,Yf,Yf];rfl
theorem Zer {x:List Nat}(h:(32:Nat)∈x):¬ (Zy x="begin"\/Zy x="late"\/Zy x="pass"):=by
 have k:∀ w:String,(32:Nat) ∉ (Qa w).cps.toList->¬ Zy x=Qa w:=fun w hw e=>hw (by rw [<- e];exact h)
 rintro (e | e | e)
 ·exact k _ (by decide +kernel) e
 ·exact k _ (by decide +kernel) e
 ·exact k _ (by decide +kernel) e
theorem ZaP {w:String}{x:Str}(hw:(32:Nat) ∉ (Qa w).cps.toList)(hc:Qa w=Qa "look"\/Qa w=Qa "back"\/Qa w=Qa "copy"\/Qa w=Qa "in")(hx:Yg x):XH (QM " " [Qa w,x]).cps.toList=some [.str (Qa w),.str x]:=by
 rw [row2]
 unfold XH
 rw [if_neg (Zer (by simp)),VN _ hw]
 dsimp only
 rw [c_ofC,c_ofC,if_pos ⟨hc,Zcl hx⟩]
theorem ZiP {p : Pg}(h:p.ok):XH p.srow.cps.toList=some p.hv:=by
 cases p with
 | set x v s =>
   show XH (QM " " [Qa "set",x,Yk v,s]).cps.toList=_
   rw [row4]
   unfold XH
   rw [if_neg (Zer (by simp)),VN _ (show (32:Nat) ∉ (Qa "set").cps.toList by decide +kernel)]
   dsimp only
   rw [ZmS (x:=Qa "set") rfl,if_neg (fun z=>absurd z.1 (by decide +kernel)),if_pos rfl,VN _ (Zdl h.1 (by decide))]
   dsimp only
   rw [c_ofC,if_pos (Zcl h.1),Zky h.2.1]
   dsimp only
   rw [show (32::s.cps.toList).drop 1=s.cps.toList from rfl,c_ofC,if_pos ⟨rfl,Zcl h.2.2⟩];rfl
 | look x=>exact ZaP (by decide +kernel) (.inl rfl) h
 | slot w s => rcases h.1 with rfl | rfl
               · exact ZaP (by decide +kernel) (.inr (.inl rfl)) h.2
               · exact ZaP (by decide +kernel) (.inr (.inr (.inl rfl))) h.2
 | pass=>exact (show XH (Qa "pass").cps.toList=_ by unfold XH;rw [if_pos (.inr (.inr (c_ofC _))),c_ofC];rfl)
 | blk w ps => rcases h.1 with rfl | rfl
               · exact (show XH (Qa "begin").cps.toList=_ by unfold XH;rw [if_pos (.inl (c_ofC _)),c_ofC];rfl)
               · exact (show XH (Qa "late").cps.toList=_ by unfold XH;rw [if_pos (.inr (.inl (c_ofC _))),c_ofC];rfl)
 | inn s ps=>exact ZaP (by decide +kernel) (.inr (.inr (.inr rfl))) h.1
theorem Zhd {row : Str}{hs:List V}(h:XH row.cps.toList=some hs):WM row=some hs:=by
 have one:∀ p:Pg,p.ok->row=p.srow->p.hv=hs->WM row=some hs:=fun p h1 h2 h3=>by rw [h2,<- h3];exact Uv h1
 obtain ⟨_,_,b3⟩:=XS row.cps.toList
 unfold XH at h
 rw [c_ofC] at h
 split at h
 ·rename_i c
  cases h
  rcases c with c | c | c
  ·exact one (.blk "begin" []) ⟨.inl rfl,trivial⟩ c (by rw [c];rfl)
  ·exact one (.blk "late" []) ⟨.inr rfl,trivial⟩ c (by rw [c];rfl)
  ·exact one .pass trivial c (by rw [c];rfl)
 ·cases e : (ZE row.cps.toList).2 with
  | none=>rw [e] at h;cases h
  | some r =>
   have b3:=b3 r e
   rw [e] at h
   dsimp only at h
   generalize (ZE row.cps.toList).1=w0 at h b3
   have hrow:∀ w1:Str,Zy w0=w1->row=QM " " [w1,Zy r]:=fun w1 e=>by
    apply ZZ
    rw [row2,b3,<- e];rfl
   by_cases c:(Zy w0="look"\/Zy w0="back"\/Zy w0="copy"\/Zy w0="in")/\Xd (Zy r)=true
   ·rw [if_pos c] at h
    cases h
    obtain ⟨c,hn⟩:=c
    have hn:=Zaa hn
    rcases c with c | c | c | c
    ·exact one (.look (Zy r)) hn (hrow _ c) (by rw [c];rfl)
    ·exact one (.slot "back" (Zy r)) ⟨.inl rfl,hn⟩ (hrow _ c) (by rw [c];rfl)
    ·exact one (.slot "copy" (Zy r)) ⟨.inr rfl,hn⟩ (hrow _ c) (by rw [c];rfl)
    ·exact one (.inn (Zy r) []) ⟨hn,trivial⟩ (hrow _ c) (by rw [c];rfl)
   ·rw [if_neg c] at h
    by_cases c2:Zy w0="set"
    ·rw [if_pos c2] at h
     obtain ⟨_,_,d3⟩:=XS r
     cases e2:(ZE r).2 with
     | none=>rw [e2] at h;cases h
     | some t =>
      have d3:=d3 t e2
      rw [e2] at h
      dsimp only at h
      generalize (ZE r).1=n0 at h d3
      by_cases c3:Xd (Zy n0)=true
      ·rw [if_pos c3] at h
       cases e3:Wp t with
       | none=>rw [e3] at h;cases h
       | some z =>
        obtain ⟨v,q⟩:=z
        rw [e3] at h
        dsimp only at h
        by_cases c4:q.head?=some 32/\Xd (Zy (q.drop 1))=true
        ·rw [if_pos c4] at h
         cases h
         obtain ⟨v1,v2⟩:=Zdi e3
         refine one (.set (Zy n0) v (Zy (q.drop 1))) ⟨Zaa c3,v1,Zaa c4.2⟩ ?_ rfl
         apply ZZ
         show _=(QM " " [Qa "set",Zy n0,Yk v,Zy (q.drop 1)]).cps.toList
         rw [row4,b3,d3,v2,<- show Zy w0=Qa "set" from c2]
         have:q=32::q.drop 1:=by
          cases q with
          | nil=>cases c4.1
          | cons a l=>have:=c4.1;cases this;rfl
         rw [Xz,Xz,Xz,<- this]
        ·rw [if_neg c4] at h;cases h
      ·rw [if_neg c3] at h;cases h
    ·rw [if_neg c2] at h;cases h
theorem Zgr (row:Str):XH row.cps.toList=WM row:=by
 cases e:WM row with
 | some hs =>
  obtain ⟨p,h1,_,rfl,rfl⟩:=ZaN e
  exact ZiP h1
 | none =>
  cases e2:XH row.cps.toList with
  | none=>rfl
  | some hs=>rw [Zhd e2] at e;cases e
theorem Uu (x:Str)(k:Nat):(Qs x none (some (k:Int))).cps.toList=x.cps.toList.take k:=by
 rw [YY,HT.sIx_none,HT.sIx_nat,drop_zero,SX,Zq]
 by_cases h:k<=x.cps.toList.length
 ·rw [Jd h]
 ·rw [JO (by omega),take_of_length_le (Qh _),take_of_length_le (by omega)]
theorem WO (x:Str)(k:Nat):(Qs x (some (k:Int)) none).cps.toList=x.cps.toList.drop k:=by
 rw [YY,HT.sIx_none,HT.sIx_nat,Zq]
 by_cases h:k<=x.cps.toList.length
 ·rw [Jd h,take_of_length_le (by rw [length_drop];omega)]
 ·rw [JO (by omega),drop_of_length_le (Qh _),drop_of_length_le (by omega)];simp
theorem ZiH (x:Str)(k:Nat):(Qs x (some (k:Int)) (some ((k:Int)+1))).cps.toList=(x.cps.toList.drop k).take 1:=by
 rw [show (k:Int)+1=((k+1:Nat):Int) by omega,YY,HT.sIx_nat,HT.sIx_nat,Zq]
 by_cases h:k < x.cps.toList.length
 ·rw [Jd (by omega),Jd (by omega),show k+1 - k=1 by omega]
 ·rw [JO (by omega),JO (by omega),drop_of_length_le (Qh _),drop_of_length_le (by omega)];simp
theorem WZ (x:Str)(c:Nat):(Qs x none (some 1)=⟨#[c]⟩)↔x.cps.toList.head?=some c:=by
 have:=Uu x 1
 rw [show ((1:Nat):Int)=1 from rfl] at this
 constructor
 ·intro e
  rw [e] at this
  cases h:x.cps.toList with
  | nil=>rw [h] at this;cases this
  | cons a r=>rw [h] at this;cases this;rfl
 ·intro e
  apply ZZ
  rw [this]
  cases h:x.cps.toList with
  | nil=>rw [h] at e;cases e
  | cons a r=>rw [h] at e;cases e;rfl
section
variable {P:Qm}{w:QC}{K:Qb}{mg:Str->Option Qe}{base:Heap}
def Zjp:Sp:=fun vs H Q _=>∃ x:Str,vs=[.str x]/\x.length<=100000/\∀ t H',Same H H'->H' t=some (.tup [.str (Zy (ZE x.cps.toList).1),ZjM (ZE x.cps.toList).2])->Q (.ref t) H'
abbrev nCu:List Str:=["_law_text","_law_at"]
abbrev ZgF:List Str:=["_law_text"]
theorem scCu:ZB nCu ZgF (Zl s_l_cut):=⟨rfl,rfl,rfl,by decide +kernel,rfl,by decide +kernel,by decide +kernel⟩
theorem ZnL {f:Addr}{fd:Qq}(F:Fun K "_law_cut" "_law_cut" s_l_cut f fd)(T:Ya mg):FnOk P w K mg base Yc 1 f fd ZgF Zjp:=by
 refine F.ok scCu (fun vs H Q E h=>?_) (fun cdv A outer s H vs Q E hr h=>?_)
 ·obtain ⟨x,rfl,_⟩:=h;rfl
 obtain ⟨x,rfl,hx,q⟩:=h
 refine' ⟨?t,?h,?r⟩
 case h =>
  conv=>arg 2;whnf
  with_reducible refine' (Zf ?h1 (Zh ?h2))
  case h1=>exact Zr (i:=1) scCu.nd rfl (Qy rfl) (ZU Qo PySem.F.slot_str_find PySem.F.type_str_find ZmU (pv 0) (Zb Zk Za))
  case h2=>exact Zo (Yv (ZA UF (pv 1) Zc (ZC _)) (ZV (Zb (pv 0) (Zb YQ Za))) (ZV (Zb (Zs YA (pv 0) Zz (Zv (pv 1))) (Zb (Zs YA (pv 0) (Zv (Zj ZO (pv 1) Zc)) Zz) Za))))
 refine ⟨_,rfl,rfl,x,_,rfl,rfl,?_⟩
 rw [ZkL]
 obtain ⟨_,h2,h3⟩:=XS x.cps.toList
 cases e:(ZE x.cps.toList).2 with
 | none =>
  rw [e] at q
  dsimp only
  refine ⟨_,rfl,_,_,rfl,rfl,_,rfl,ifT (decide_eq_true (by decide)) ?_⟩
  refine ⟨_,rfl,(by show 2<=Qi;decide),fun t ht=>q t _ (Zg ht _) ?_⟩
  rw [<- h2 e,c_ofC];exact Ze
 | some r =>
  rw [e] at q
  have h3:=h3 r e
  have hl:(ZE x.cps.toList).1.length<=x.length:=by
   rw [Zq];generalize (ZE x.cps.toList).1=a at h3;rw [h3];simp
  dsimp only
  refine ⟨_,rfl,_,_,rfl,rfl,_,rfl,VA (decide_eq_false (by omega)) ?_⟩
  refine ⟨_,rfl,?_⟩
  dsimp only [YR]
  refine ⟨_,rfl,_,rfl,x,rfl,Zp hx,?_⟩
  refine ⟨_,rfl,_,rfl,_,_,rfl,rfl,_,rfl,x,rfl,Zp hx,(by show 2<=Qi;decide),fun t ht=>q t _ (Zg ht _) ?_⟩
  have e1:Qs x none (some ((ZE x.cps.toList).1.length:Int))=Zy (ZE x.cps.toList).1:=by
   apply ZZ
   rw [Uu,Xz]
   generalize (ZE x.cps.toList).1=a at h3;rw [h3];simp
  have e2:Qs x (some (((ZE x.cps.toList).1.length:Int)+1)) none=Zy r:=by
   apply ZZ
   rw [show ((ZE x.cps.toList).1.length:Int)+1=(((ZE x.cps.toList).1.length+1:Nat):Int) by omega,WO,Xz]
   generalize (ZE x.cps.toList).1=a at h3;rw [h3];simp
  rw [<- e1]
  show _=some (HO.tup [_,.str (Zy r)])
  rw [<- e2];exact Ze
def spIN:Sp:=fun vs H Q _=>∃ o:Option (List Nat),vs=[ZjM o]/\(∀ x,o=some x->x.length<=100000)/\∀ H',Same H H'->Q (.bl (match o with | none=>false | some x=>Xd (Zy x))) H'
abbrev nIN:List Str:=["_law_word"]
abbrev Zjq:List Str:=["_law_word"]
theorem scIN:ZB nIN Zjq (Zl s_l_is_name):=⟨rfl,rfl,rfl,by decide +kernel,rfl,by decide +kernel,by decide +kernel⟩
theorem Zod {f:Addr}{fd:Qq}(F:Fun K "_law_is_name" "_law_is_name" s_l_is_name f fd)(T:Ya mg):FnOk P w K mg base Yc 1 f fd Zjq spIN:=by
 refine F.ok scIN (fun vs H Q E h=>?_) (fun cdv A outer s H vs Q E hr h=>?_)
 ·obtain ⟨o,rfl,_⟩:=h;rfl
 obtain ⟨o,rfl,hx,q⟩:=h
 refine' ⟨?t,?h,?r⟩
 case h =>
  conv=>arg 2;whnf
  with_reducible refine' (Zh ?h1)
  case h1=>exact Zo (XZ (Zog (ZcR (pv 0))) (XZ (Wv UD UD Zc (Zm ZQ rfl T.len Qu (Zb (pv 0) Za)) Zc) (WH (Zm (Wx rfl) rfl T.all (by decide +kernel) (Zb (XM (CompOk.of nIN s_l_is_name rfl rfl (by decide +kernel)) rfl (UI (pv 0))  (fun _ _ _ _ _=>Wv YT YT Zk (pv 1) Zk)) Za)))))
 cases o with
 | none=>exact ⟨_,rfl,_,rfl,VA rfl (q H (Same.refl H))⟩
 | some l =>
  have hl:=hx l rfl
  have hx:(Zy l).length<=100000:=by rw [Zq,Xz];exact hl
  show ZkT _ _ (start _ [.str (Zy l)]) _
  replace q:∀ H',Same H H'->Q (.bl (Xd (Zy l))) H':=q
  generalize Zy l=x at hx q
  have fin:∀ b:Bool,b=Xd x->Q (.bl b) H:=fun b e=>by rw [e];exact q H (Same.refl H)
  refine ⟨_,rfl,_,rfl,ifT rfl ?_⟩
  refine ⟨_,rfl,x,rfl,Zp hx,?_⟩
  refine ⟨_,_,rfl,rfl,_,rfl,?_⟩
  by_cases c1:(1:Int)<=(x.length:Int)
  ·rw [decide_eq_true c1]
   refine Zx ⟨_,_,rfl,rfl,_,rfl,?_⟩
   by_cases c2:(x.length:Int)<=8
   ·rw [decide_eq_true c2]
    refine Zx ⟨_,rfl,x,rfl,fun D hD=>?_⟩
    refine XJ (Zp hx) (fun c=>.bl (US c)) (fun c H' R hc hR=>?_) ⟨D,x.cps.toList.map US,rfl,SqL.of (by rw [VI];exact Ze),?_⟩
    ·exact ⟨_,rfl,_,_,rfl,rfl,_,rfl,btw ca cz hR⟩
    ·have:(x.cps.toList.map US).all id=Xd x:=by
      unfold Xd
      rw [decide_eq_true (show 1<=x.length by omega),decide_eq_true (show x.length<=8 by omega),all_map];rfl
     rw [this]
     exact q _ (Zg hD _)
   ·rw [decide_eq_false c2]
    exact Zw (fin _ (by unfold Xd;rw [decide_eq_false (show ¬ x.length<=8 by omega)];simp))
  ·rw [decide_eq_false c1]
   refine Zw ⟨_,rfl,?_⟩
   exact Zw (fin _ (by unfold Xd;rw [decide_eq_false (show ¬ 1<=x.length by omega)];simp))
def spNA:Sp:=fun vs H Q _=>∃ x:Str,vs=[.str x]/\x.length<=100000/\(Xu (Zy (ZE x.cps.toList).1) 30=none->∀ H',Same H H'->Q .non H')/\∀ n,Xu (Zy (ZE x.cps.toList).1) 30=some n->∀ t H',Same H H'->H' t=some (.tup [.int n,.str (Zy (x.cps.toList.drop (ZE x.cps.toList).1.length))])->Q (.ref t) H'
abbrev nNA:List Str:=["_law_text","_law_word","_law_figures"]
abbrev Zlf:List Str:=["_law_text"]
theorem scNA:ZB nNA Zlf (Zl s_l_number_at):=⟨rfl,rfl,rfl,by decide +kernel,rfl,by decide +kernel,by decide +kernel⟩
theorem ZkA {f:Addr}{fd:Qq}(F:Fun K "_law_number_at" "_law_number_at" s_l_number_at f fd)(T:Ya mg)(DCu:Def P w K mg base 1 "_law_cut" ZgF Zjp):FnOk P w K mg base Yc 2 f fd Zlf spNA:=by
 refine F.ok scNA (fun vs H Q E h=>?_) (fun cdv A outer s H vs Q E hr h=>?_)
 ·obtain ⟨x,rfl,_⟩:=h;rfl
 obtain ⟨z,rfl,hz,q1,q2⟩:=h
 refine' ⟨?t,?h,?r⟩
 case h =>
  conv=>arg 2;whnf
  with_reducible refine' (Zf ?h1 (Xq ?h2 (Zf (ZT ?h3 (Zh ?h4) ZI) (Zh ?h5))))
  case h1=>exact Zr (i:=1) scNA.nd rfl (Qy rfl) (ZG YI (Zu DCu hr (Zb (pv 0) Za)) Zc (fun _ _=>rfl))
  case h2=>exact Zr (i:=2) scNA.nd rfl (Qy rfl) (Yv (ZA Xb (Zs YA (pv 1) Zz (Zv Zc)) Zk (ZC _)) (Zs YA (pv 1) (Zv Zc) Zz) (pv 1))
  case h3=>exact PW.pt (Xt (XI (ZdW UD UD Zc (Zm ZQ rfl T.len Qu (Zb (pv 2) Za)) Zc)) (Xt (XI (Yo (Zm (Wx rfl) rfl T.all (by decide +kernel) (Zb (XM (CompOk.of nNA s_l_number_at rfl rfl (by decide +kernel)) rfl (UI (pv 2))  (fun _ _ _ _ _=>Wv YT YT Zk (pv 3) Zk)) Za)))) (Wg (ZA WK (Yw Vo rfl T.str (by decide +kernel) (Zb (Yw WN rfl T.int (by decide +kernel) (Zb (pv 1) Za)) Za)) (pv 1) (ZC _)))))
  case h4=>exact Zo YQ
  case h5=>exact Zo (ZV (Zb (Yw WN rfl T.int (by decide +kernel) (Zb (pv 1) Za)) (Zb (Zs YA (pv 0) (Zv (Zm ZQ rfl T.len Qu (Zb (pv 1) Za))) Zz) Za)))
 have hlz:(ZE z.cps.toList).1.length<=z.cps.toList.length:=by
  obtain ⟨_,h2,h3⟩:=XS z.cps.toList
  generalize ZE z.cps.toList=y at h2 h3
  cases e:y.2 with
  | none=>rw [h2 e];exact Qh _
  | some r=>rw [h3 r e];simp
 refine ⟨_,rfl,z,rfl,hz,fun t H1 s1 et=>⟨t,_,_,_,rfl,rfl,SqT.of et,ZF (j:=0) rfl,?_⟩⟩
 rw [<- Zq] at hlz
 have hx:(Zy (ZE z.cps.toList).1).length<=100000:=by rw [Zq,Xz];omega
 have hlx:=Zq (Zy (ZE z.cps.toList).1)
 have htail:Qs z (some ((Zy (ZE z.cps.toList).1).length:Int)) none=Zy (z.cps.toList.drop (ZE z.cps.toList).1.length):=by
  apply ZZ
  rw [WO,Xz,Zq,Xz]
 rw [<- htail] at q2
 generalize Zy (ZE z.cps.toList).1=x at hx hlx q1 q2 ⊢
 replace q1:Xu x 30=none->∀ H',Same H1 H'->Q .non H':=fun h H' s'=>q1 h H' (s1.trans s')
 replace q2:∀ n,Xu x 30=some n->∀ t H',Same H1 H'->H' t=some (.tup [.int n,.str (Qs z (some (x.length:Int)) none)])->Q (.ref t) H':=fun n h t H' s'=>q2 n h t H' (s1.trans s')
 clear s1 et
 refine ⟨fun σ H'=>H'=H1/\∃ y:Str,y.cps.toList=Yu x/\σ=[some (.str z),some (.str x),some (.str y)],?_,?_⟩
 ·refine ⟨_,rfl,?_⟩
  dsimp only [YR]
  refine ⟨_,rfl,x,rfl,Zp hx,rfl,_,rfl,?_⟩
  by_cases hh:x.cps.toList.head?=some 45
  ·rw [decide_eq_true (show V.str (Qs x none (some 1))=V.str (Qa "-") by rw [mi1,(WZ x 45).mpr hh])]
   exact Zx ⟨_,rfl,_,rfl,x,rfl,Zp hx,rfl,_,by rw [ZcI];unfold Yu;rw [if_pos hh],rfl⟩
  ·rw [decide_eq_false (show ¬ V.str (Qs x none (some 1))=V.str (Qa "-") from fun e=>hh ((WZ x 45).mp (by rw [mi1] at e;injection e))) ]
   exact Zw ⟨_,rfl,rfl,x,by unfold Yu;rw [if_neg hh],rfl⟩
 rintro σ H ⟨rfl,y,ey,rfl⟩
 have hly:y.length=(Yu x).length:=by rw [Zq,ey]
 have hyx:(Yu x).length<=100000:=by
  unfold Yu
  split
  ·rw [length_drop];omega
  ·omega
 refine ⟨_,rfl,y,rfl,Zp (show _<=100000 by omega),_,_,rfl,rfl,_,rfl,?_⟩
 have no:∀ H',Same H H'->¬ (1<=(Yu x).length/\(Yu x).length<=30/\(Yu x).all XR=true)->Q .non H':=fun H' s' h=>by
  refine q1 ?_ H' s'
  unfold Xu
  rw [if_neg h]
 by_cases c1:(1:Int)<=(y.length:Int)
 ·rw [decide_eq_true c1]
  refine Zx ⟨_,_,rfl,rfl,_,rfl,?_⟩
  by_cases c2:(y.length:Int)<=(30:Int)
  ·rw [decide_eq_true c2]
   refine Zw ⟨_,rfl,y,rfl,fun D hD=>?_⟩
   refine XJ (Zp (show _<=100000 by omega)) (fun c=>.bl (XR c)) (fun c H' R hc hR=>?_) ⟨D,y.cps.toList.map XR,rfl,SqL.of (by rw [VI];exact Ze),?_⟩
   ·exact ⟨_,rfl,_,_,rfl,rfl,_,rfl,btw c0 c9 hR⟩
   have s1:=Zg hD (.lst ((y.cps.toList.map fun c=>V.bl (XR c))))
   generalize upd H D (.lst ((y.cps.toList.map fun c=>V.bl (XR c))))=H1 at s1 ⊢
   have ea:(y.cps.toList.map XR).all id=(Yu x).all XR:=by rw [all_map,ey];rfl
   rw [ea]
   refine ⟨_,rfl,?_⟩
   cases hd:(Yu x).all XR with
   | false=>exact Zx (no H1 s1 fun h=>by rw [hd] at h;exact absurd h.2.2 (by decide))
   | true =>
    obtain ⟨n,hn,hl,hlog⟩:=Zcj (w:=x) (by omega) (by omega) hd
    have hq:Xu x 30=if Qa (Gn n)=x then some n else none:=by
     unfold Xu
     rw [if_pos ⟨by omega,by omega,hd⟩,hn,Sn]
    refine Zw ⟨_,rfl,x,n,rfl,hn,hl,.inl ⟨n,rfl,hlog,_,rfl,rfl,_,rfl,?_⟩⟩
    by_cases hs:Qa (Gn n)=x
    ·rw [decide_eq_true (by rw [hs])]
     rw [if_pos hs] at hq
     refine Zw ⟨_,rfl,x,n,rfl,hn,hl,_,rfl,_,rfl,x,rfl,Zp hx,_,rfl,z,rfl,Zp hz,(by show 2<=Qi;decide),fun t ht=>q2 n hq t _ (s1.trans (Zg ht _)) Ze⟩
    ·rw [decide_eq_false (fun z=>hs (by injection z))]
     rw [if_neg hs] at hq
     exact Zx (q1 hq H1 s1)
  ·rw [decide_eq_false c2]
   exact Zx (no H (Same.refl H) fun h=>c2 (by omega))
 ·rw [decide_eq_false c1]
  refine Zw ⟨_,rfl,?_⟩
  exact Zx (no H (Same.refl H) fun h=>c1 (by omega))
end
theorem ZfP {x:List Nat}(h:¬ x.head?=some 39):Wp x=(Xu (Zy (ZE x).1) 30).map fun i=>(V.int i,x.drop (ZE x).1.length):=by
 cases x with
 | nil =>
  have:Xu (Zy (ZE []).1) 30=none:=by unfold Xu;rw [if_neg];intro z;exact absurd z.1 (by decide)
  rw [this];rfl
 | cons c t=>exact Zif t fun z=>h (by rw [z];rfl)
theorem ZeM (c:Str):YL (.str c) [.str "'",.str "\\"]=true↔c=⟨#[39]⟩\/c=⟨#[92]⟩:=by
 show (Ul (.str "'") (.str c) || (Ul (.str "\\") (.str c) || false))=true↔_
 rw [RK,OA,<- qu1,<- sl1]
 show (Qa "'" == c)=true\/(Qa "\\" == c)=true↔_
 rw [beq_iff_eq,beq_iff_eq]
 exact ⟨fun h=>h.imp Eq.symm Eq.symm,fun h=>h.imp Eq.symm Eq.symm⟩
section
variable {P:Qm}{w:QC}{K:Qb}{mg:Str->Option Qe}{base:Heap}
def spVA:Sp:=fun vs H Q _=>∃ x:Str,vs=[.str x]/\x.length<=100000/\(Wp x.cps.toList=none->∀ H',Same H H'->Q .non H')/\∀ v r,Wp x.cps.toList=some (v,r)->∀ t H',Same H H'->H' t=some (.tup [v,.str (Zy r)])->Q (.ref t) H'
abbrev nVA:List Str:=["_law_text","_law_value_here","_law_k"]
abbrev ZjJ:List Str:=["_law_text"]
theorem scVA:ZB nVA ZjJ (Zl s_l_value_at):=⟨rfl,rfl,rfl,by decide +kernel,rfl,by decide +kernel,by decide +kernel⟩
theorem ZkX {f : Addr}{fd:Qq}(F:Fun K "_law_value_at" "_law_value_at" s_l_value_at f fd)(T:Ya mg)(DNA:Def P w K mg base 2 "_law_number_at" Zlf spNA):FnOk P w K mg base Yc 3 f fd ZjJ spVA:=by
 refine F.ok scVA (fun vs H Q E h=>?_) (fun cdv A outer s H vs Q E hr h=>?_)
 ·obtain ⟨x,rfl,_⟩:=h;rfl
 obtain ⟨x,rfl,hx,q1,q2⟩:=h
 refine' ⟨?t,?h,?r⟩
 case h =>
  conv=>arg 2;whnf
  with_reducible refine' (Zf (ZT ?h1 (Zh ?h2) ZI) (Zf ?h3 (Xq (VQ ?h4 ?h5 (Xq (ZT ?h6 (Zf ?h7 (Zh (ZT ?h8 (Zh ?h9) ZI))) ZI) (Zh ?h10))) (Zf (ZT ?h11 (Zh ?h12) ZI) (Zh ?h13)))))
  case h1=>exact ZA WK (Zs YA (pv 0) Zz (Zv Zc)) Zk (ZC _)
  case h2=>exact Zo (Zu DNA hr (Zb (pv 0) Za))
  case h3=>exact Uk (ZV (Zb Zk (Zb Zc Za))) (Wb rfl (Ye (ZM (i:=1) scVA.nd rfl (Qy rfl)) (Ye (ZM (i:=2) scVA.nd rfl (Qy rfl)) Xw)))
  case h4=>exact Ga
  case h5=>exact PW.pt (Vg (ZA UF (pv 2) (Zm ZQ rfl T.len Qu (Zb (pv 0) Za)) (ZC _)) (UC (ZA WK (ZG UL (pv 0) (pv 2) (fun _ _=>rfl)) Zk (ZC _))))
  case h6=>exact ZA Xb (ZG UL (pv 0) (pv 2) (fun _ _=>rfl)) Zk (ZC _)
  case h7=>exact Zr (i:=2) scVA.nd rfl (Qy rfl) (Zj ZO (pv 2) Zc)
  case h8=>exact ZA Vi (Zs YA (pv 0) (Zv (pv 2)) (Zv (Zj ZO (pv 2) Zc))) (ZV (Zb Zk (Zb Zk Za))) rfl
  case h9=>exact Zo YQ
  case h10=>exact Wt (i:=1) (j:=2) rfl scVA.nd rfl rfl (by decide) rfl rfl (Zb (Zj ZJ (pv 1) (ZG UL (pv 0) (pv 2) (fun _ _=>rfl))) (Zb (Zj ZO (pv 2) Zc) Za)) rfl
  case h11=>exact PW.pt (Xt (ZA Xb (pv 2) (Zm ZQ rfl T.len Qu (Zb (pv 0) Za)) (ZC _)) (Xt (ZA UG (Zm ZQ rfl T.len Qu (Zb (pv 1) Za)) Zc (ZC _)) (Wg (XI (Yo (Zm (Wx rfl) rfl T.all (by decide +kernel) (Zb (XM (CompOk.of nVA s_l_value_at rfl rfl (by decide +kernel)) rfl (UI (pv 1))  (fun _ _ _ _ _=>Wv YT YT Zk (pv 3) Zk)) Za)))))))
  case h12=>exact Zo YQ
  case h13=>exact Zo (ZV (Zb (pv 1) (Zb (Zs YA (pv 0) (Zv (Zj ZO (pv 2) Zc)) Zz) Za)))
 have hxl:=Zq x
 refine ⟨_,rfl,?_⟩
 dsimp only [YR]
 refine ⟨_,rfl,x,rfl,Zp hx,rfl,_,rfl,?_⟩
 by_cases hh:¬ x.cps.toList.head?=some 39
 ·rw [decide_eq_false (show ¬ V.str (Qs x none (some 1))=V.str (Qa "'") from fun e=>hh ((WZ x 39).mp (by rw [qu1] at e;injection e)))]
  refine Zx ⟨_,rfl,x,rfl,hx,fun h H' s'=>q1 (by rw [ZfP hh,h];rfl) H' s',fun n h t H' s' e=>q2 _ _ (by rw [ZfP hh,h];rfl) t H' s' e⟩
 have hh:x.cps.toList.head?=some 39:=Classical.not_not.mp hh
 rw [decide_eq_true (show V.str (Qs x none (some 1))=V.str (Qa "'") by rw [qu1,(WZ x 39).mpr hh])]
 have hv:Wp x.cps.toList=(match rdQ (x.cps.toList.drop 1) with | some (l,r)=>if l.length<=40/\l.all Yz=true then some (V.str (Zy l),r) else none | none=>none):=by
  cases e:x.cps.toList with
  | nil=>rw [e] at hh;cases hh
  | cons a t=>rw [e] at hh;cases hh;exact ZhN t
 have hpos:1<=x.length:=by
  rw [hxl]
  cases e:x.cps.toList with
  | nil=>rw [e] at hh;cases hh
  | cons a t=>simp
 refine Zw ⟨(by decide),fun t0 ht0=>⟨t0,_,rfl,SqT.of Ze,rfl,_,_,rfl,_,_,rfl,rfl,?_⟩⟩
 refine ⟨fun σ H2=>∃ (acc:List Nat) (k:Nat),σ=[some (.str x),some (.str (Zy acc)),some (.int (k:Int))]/\Same H H2/\k<=x.length/\acc.length<=k/\((k=x.length/\rdQ (x.cps.toList.drop 1)=none)\/(k < x.length/\rdQ (x.cps.toList.drop 1)=some (acc,x.cps.toList.drop (k+1)))),?_,?_⟩
 ·refine ⟨fun m σ H'=>∃ (acc:List Nat) (k:Nat),m=x.length - k/\σ=[some (.str x),some (.str (Zy acc)),some (.int (k:Int))]/\Same H H'/\k<=x.length/\acc.length<=k/\rdQ (x.cps.toList.drop 1)=(rdQ (x.cps.toList.drop k)).map fun z=>(acc++z.1,z.2),⟨_,[],1,rfl,rfl,Zg ht0 _,hpos,Qp _,by cases rdQ (x.cps.toList.drop 1)<;>rfl⟩,?_⟩
  rintro m σ H1 ⟨acc,k,rfl,rfl,s1,hkl,hal,hrd⟩
  refine ⟨_,rfl,_,rfl,x,rfl,Zp hx,_,_,rfl,rfl,_,rfl,?_⟩
  by_cases c1:k < x.length
  ·rw [decide_eq_true (show (k:Int) < (x.length:Int) by omega)]
   obtain ⟨c,hc⟩:∃ c,x.cps.toList[k]?=some c:=⟨_,getElem?_eq_getElem (by omega)⟩
   have hd:x.cps.toList.drop k=c::x.cps.toList.drop (k+1):=by
    obtain ⟨h1,h2⟩:=Ql.mp hc
    rw [drop_eq_getElem_cons h1,h2]
   refine Zx ⟨_,rfl,_,rfl,x,_,c,rfl,rfl,Zp hx,ZF hc,rfl,_,rfl,?_⟩
   rw [Zel c 39 _ qu1]
   by_cases c39:c=39
   ·rw [decide_eq_true c39]
    refine Zw ⟨acc,k,rfl,s1,hkl,hal,.inr ⟨c1,?_⟩⟩
    rw [hrd,hd,XU,if_pos c39]
    show some (acc++[],_)=_
    rw [append_nil]
   rw [decide_eq_false c39]
   refine Zx ⟨fun σ' H'=>∃ (acc':List Nat) (k':Nat),k < k'/\σ'=[some (.str x),some (.str (Zy acc')),some (.int (k':Int))]/\Same H H'/\k'<=x.length/\acc'.length<=k'/\rdQ (x.cps.toList.drop 1)=(rdQ (x.cps.toList.drop k')).map fun z=>(acc'++z.1,z.2),fun σ' H' ⟨acc',k',h1,h2,h3,h4,h5,h6⟩=>⟨x.length - k',by omega,acc',k',rfl,h2,h3,h4,h5,h6⟩,?_⟩
   refine ⟨fun σ' H'=>∃ (k' c':Nat),k<=k'/\k'<=k+1/\σ'=[some (.str x),some (.str (Zy acc)),some (.int (k':Int))]/\Same H H'/\x.cps.toList[k']?=some c'/\rdQ (x.cps.toList.drop k)=(rdQ (x.cps.toList.drop (k'+1))).map fun z=>(c'::z.1,z.2),?_,?_⟩
   ·refine ⟨_,rfl,_,rfl,x,_,c,rfl,rfl,Zp hx,ZF hc,rfl,_,rfl,?_⟩
    rw [Zel c 92 _ sl1]
    by_cases c92:c=92
    ·rw [decide_eq_true c92]
     refine Zx ⟨_,rfl,_,_,rfl,rfl,?_⟩
     refine ⟨_,rfl,_,rfl,_,rfl,_,rfl,_,_,rfl,rfl,_,rfl,x,rfl,Zp hx,(by decide),fun t1 ht1=>?_⟩
     refine ⟨t1,_,rfl,.inr (SqT.of Ze),rfl,rfl,_,rfl,?_⟩
     have s2:=s1.trans (Zg ht1 (.tup [.str "'",.str "\\"]))
     generalize upd H1 t1 (.tup [.str "'",.str "\\"])=H2 at s2 ⊢
     have hsl:=ZiH x (k+1)
     rw [show ((k+1:Nat):Int)=(k:Int)+1 by omega] at hsl
     cases e:x.cps.toList[k+1]? with
     | none =>
      have hnil:x.cps.toList.drop (k+1)=[]:=drop_of_length_le (by have:=List.getElem?_eq_none_iff.mp e;omega)
      have hno:YL (.str (Qs x (some ((k:Int)+1)) (some ((k:Int)+1+1)))) [.str "'",.str "\\"]=false:=by
       rw [Mc];intro z
       rcases (ZeM _).mp z with z | z<;>(rw [z,hnil] at hsl;cases hsl)
      rw [hno]
      refine Zx (q1 ?_ H2 s2)
      rw [hv,hrd,hd,XU,if_neg c39,if_pos c92,hnil];rfl
     | some d =>
      have hd2:x.cps.toList.drop (k+1)=d::x.cps.toList.drop (k+1+1):=by
       obtain ⟨h1,h2⟩:=Ql.mp e
       rw [drop_eq_getElem_cons h1,h2]
      have hs1:Qs x (some ((k:Int)+1)) (some ((k:Int)+1+1))=⟨#[d]⟩:=ZZ (by rw [hsl,hd2];rfl)
      rw [hs1]
      by_cases cd:d=39\/d=92
      ·have hyes:YL (.str ⟨#[d]⟩) [.str "'",.str "\\"]=true:=(ZeM _).mpr (by rcases cd with rfl | rfl;exact .inl rfl;exact .inr rfl)
       rw [hyes]
       refine Zw ⟨k+1,d,by omega,by omega,?_,s2,e,?_⟩
       ·show [some (V.str x),some (V.str (Zy acc)),some (V.int ((k:Int)+1))]=_
        rw [show ((k+1:Nat):Int)=(k:Int)+1 by omega]
       ·rw [hd,XU,if_neg c39,if_pos c92,hd2]
        show (if d=39\/d=92 then _ else none)=_
        rw [if_pos cd]
      ·have hno:YL (.str ⟨#[d]⟩) [.str "'",.str "\\"]=false:=by
        rw [Mc];intro z
        exact cd (((ZeM _).mp z).imp (fun z=>by injection z with z;injection z with z;injection z) (fun z=>by injection z with z;injection z with z;injection z))
       rw [hno]
       refine Zx (q1 ?_ H2 s2)
       have hr0:rdQ (x.cps.toList.drop k)=none:=by
        rw [hd,XU,if_neg c39,if_pos c92,hd2]
        show (if d=39\/d=92 then _ else none)=_
        rw [if_neg cd]
       rw [hv,hrd,hr0];rfl
    ·rw [decide_eq_false c92]
     refine Zw ⟨k,c,Qh _,by omega,rfl,s1,hc,?_⟩
     rw [hd,XU,if_neg c39,if_neg c92]
   ·rintro σ' H2 ⟨k',c',h1,h2,rfl,s2,hc',hr'⟩
    have hk':k' < x.length:=by have:=(Ql.mp hc').1;omega
    refine ⟨_,rfl,_,rfl,_,rfl,x,_,c',rfl,rfl,Zp hx,ZF hc',_,_,rfl,rfl,Zp (show _<=100000 by rw [Zq,Xz];show acc.length+1<=_;omega),_,rfl,_,_,rfl,rfl,_,_,rfl,acc++[c'],k'+1,by omega,?_,s2,by omega,by rw [length_append,length_singleton];omega,?_⟩
    ·show [some (V.str x),some (V.str (Zy acc++⟨#[c']⟩)),some (V.int ((k':Int)+1))]=_
     rw [show ((k'+1:Nat):Int)=(k':Int)+1 by omega,show Zy (acc++[c'])=Zy acc++⟨#[c']⟩ from ZZ (by rw [Xl];rfl)]
    ·rw [hrd,hr',Option.map_map]
     congr 1
     funext z
     show (acc++c'::z.1,z.2)=(acc++[c']++z.1,z.2)
     rw [append_assoc];rfl
  ·rw [decide_eq_false (show ¬ (k:Int) < (x.length:Int) by omega)]
   have hkx:k=x.length:=by omega
   refine Zw ?_
   refine Zw ⟨acc,k,rfl,s1,hkl,hal,.inl ⟨hkx,?_⟩⟩
   rw [hrd,drop_of_length_le (by omega),rdQ.eq_def];rfl
 rintro σ H1 ⟨acc,k,rfl,s1,hkl,hal,hcase⟩
 have hla:(Zy acc).length=acc.length:=by rw [Zq,Xz]
 refine ⟨_,rfl,_,rfl,x,rfl,Zp hx,rfl,_,rfl,?_⟩
 rcases hcase with ⟨hk,hrd⟩ | ⟨hk,hrd⟩
 ·rw [decide_eq_true (show V.int (k:Int)=V.int (x.length:Int) by rw [hk])]
  exact Zx (Zx (q1 (by rw [hv,hrd]) H1 s1))
 rw [decide_eq_false (show ¬ V.int (k:Int)=V.int (x.length:Int) from fun z=>by injection z with z;omega)]
 rw [hrd] at hv
 dsimp only at hv
 refine Zw ⟨_,rfl,_,rfl,Zp (show _<=100000 by omega),_,_,rfl,rfl,_,rfl,?_⟩
 by_cases c2:acc.length<=40
 ·rw [decide_eq_false (show ¬ (40:Int) < ((Zy acc).length:Int) by omega)]
  refine Zw ⟨_,rfl,_,rfl,fun D hD=>?_⟩
  refine XJ (Zp (show _<=100000 by omega)) (fun c=>.bl (Yz c)) (fun c H' R hc hR=>?_) ⟨D,acc.map Yz,rfl,SqL.of (by rw [VI];exact Ze),?_⟩
  ·exact ⟨_,rfl,_,_,rfl,rfl,_,rfl,btw cbl cti hR⟩
  have s2:=s1.trans (Zg hD (.lst ((Zy acc).cps.toList.map fun c=>V.bl (Yz c))))
  generalize upd H1 D (.lst ((Zy acc).cps.toList.map fun c=>V.bl (Yz c)))=H2 at s2 ⊢
  rw [show (acc.map Yz).all id=acc.all Yz by rw [all_map];rfl]
  refine ⟨_,rfl,?_⟩
  cases c3:acc.all Yz with
  | false=>exact Zx (q1 (by rw [hv,if_neg (by rw [c3];exact fun z=>nomatch z.2)]) H2 s2)
  | true =>
   refine Zw ⟨_,rfl,_,rfl,_,rfl,_,_,rfl,rfl,_,rfl,x,rfl,Zp hx,(by show 2<=Qi;decide),fun t ht=>?_⟩
   refine q2 _ _ (by rw [hv,if_pos ⟨c2,c3⟩]) t _ (s2.trans (Zg ht _)) ?_
   rw [show Zy (x.cps.toList.drop (k+1))=Qs x (some ((k:Int)+1)) none from ZZ (by rw [show (k:Int)+1=((k+1:Nat):Int) by omega,WO];rfl)]
   exact Ze
 ·rw [decide_eq_true (show (40:Int) < ((Zy acc).length:Int) by omega)]
  exact Zx (Zx (q1 (by rw [hv,if_neg (fun z=>c2 z.1)]) H1 s1))
end
theorem ZbF (c:Str):∀ ws:List Str,YL (.str c) (ws.map V.str)=decide (c∈ws)
 | []=>rfl
 | w :: ws=>by
  have ih:=ZbF c ws
  show ((w == c) || YL (.str c) (ws.map V.str))=_
  rw [ih]
  by_cases h:c=w
  ·subst h;simp
  ·rw [show (w == c)=false from beq_false_of_ne (fun z=>h z.symm),Nq]
   simp [h]
theorem ZeS {x:List Nat}{n:Nat}(h:x.length<=n):(ZE x).1.length<=n/\∀ r,(ZE x).2=some r->r.length<=n:=by
 obtain ⟨_,h2,h3⟩:=XS x
 generalize ZE x=y at h2 h3
 cases e:y.2 with
 | none=>have:=congrArg JT (h2 e);exact ⟨by omega,fun r z=>nomatch z⟩
 | some r =>
  have:=congrArg JT (h3 r e)
  rw [length_append,length_cons] at this
  exact ⟨by omega,fun r' z=>by cases z;omega⟩
theorem ZjT {x r:List Nat}{v:V}(h:Wp x=some (v,r)):r.length<=x.length:=by
 have:=congrArg JT (Zdi h).2
 rw [length_append] at this;omega
section
variable {P:Qm}{w:QC}{K:Qb}{mg:Str->Option Qe}{base:Heap}
abbrev nSt:List Str:=["_law_row","_law_word","_law_rest","_law_name","_law_found"]
abbrev ZkH:List Str:=["_law_row"]
theorem scSt:ZB nSt ZkH (Zl s_l_step):=⟨rfl,rfl,rfl,by decide +kernel,rfl,by decide +kernel,by decide +kernel⟩
theorem Zna {f : Addr}{fd:Qq}(F:Fun K "_law_step" "_law_step" s_l_step f fd)(T:Ya mg)(DCu:Def P w K mg base 3 "_law_cut" ZgF Zjp)(DIN:Def P w K mg base 3 "_law_is_name" Zjq spIN)(DVA:Def P w K mg base 3 "_law_value_at" ZjJ spVA):FnOk P w K mg base Yc 4 f fd ZkH ZeB:=by
 refine F.ok scSt (fun vs H Q E h=>?_) (fun cdv A outer s H vs Q E hr h=>?_)
 · obtain ⟨x,rfl,_⟩:=h;rfl
 obtain ⟨x,rfl,hx,q1,q2⟩:=h
 refine' ⟨?t,?h,?r⟩
 case h =>
   conv=>arg 2;whnf
   with_reducible refine' (Zf ?h1 (Zf (ZT ?h2 (Zh ?h3) ZI) (Xq (ZT ?h4 (Zh ?h5) ZI) (Zf (ZT ?h6 (Zh ?h7) ZI) (Zf ?h8 (Zf ?h9 (Zf (ZT ?h10 (Zh ?h11) ZI) (Zh ?h12))))))))
   case h1=>exact Uk (Zu DCu hr (Zb (pv 0) Za)) (Wb rfl (Ye (ZM (i:=1) scSt.nd rfl (Qy rfl)) (Ye (ZM (i:=2) scSt.nd rfl (Qy rfl)) Xw)))
   case h2=>exact ZA Wo (pv 0) (ZV (Zb Zk (Zb Zk (Zb Zk Za)))) rfl
   case h3=>exact Zo (ZV (Zb (pv 0) Za))
   case h4=>exact PW.pt (Vg (ZA Wo (pv 1) (ZV (Zb Zk (Zb Zk (Zb Zk (Zb Zk Za))))) rfl) (UC (Yo (Zu DIN hr (Zb (pv 2) Za)))))
   case h5=>exact Zo (ZV (Zb (pv 1) (Zb (pv 2) Za)))
   case h6=>exact PW.pt (Xt (ZA WK (pv 1) Zk (ZC _)) (Wg (Wu (Ui (pv 2)))))
   case h7=>exact Zo YQ
   case h8=>exact Uk (Zu DCu hr (Zb (pv 2) Za)) (Wb rfl (Ye (ZM (i:=3) scSt.nd rfl (Qy rfl)) (Ye (ZM (i:=2) scSt.nd rfl (Qy rfl)) Xw)))
   case h9=>exact Zr (i:=4) scSt.nd rfl (Qy rfl) (Yv (PW.pt (Vg (Yo (Zu DIN hr (Zb (pv 3) Za))) (UC (Wu (ZcR (pv 2)))))) (Zu DVA hr (Zb (pv 2) Za)) YQ)
   case h10=>exact PW.pt (Xt (Wu (Ui (pv 4))) (Xt (ZA WK (Zs YA (ZG YI (pv 4) Zc (fun _ _=>rfl)) Zz (Zv Zc)) Zk (ZC _)) (Wg (XI (Yo (Zu DIN hr (Zb (Zs YA (ZG YI (pv 4) Zc (fun _ _=>rfl)) (Zv Zc) Zz) Za)))))))
   case h11=>exact Zo YQ
   case h12=>exact Zo (ZV (Zb Zk (Zb (pv 3) (Zb (ZG YI (pv 4) Zc (fun _ _=>rfl)) (Zb (Zs YA (ZG YI (pv 4) Zc (fun _ _=>rfl)) (Zv Zc) Zz) Za)))))
 have hxl:=Zq x
 have hst:WM x=(if x="begin"\/x="late"\/x="pass" then some [.str x]
   else match (ZE x.cps.toList).2 with
     | none=>none
     | some r =>
       if (Zy (ZE x.cps.toList).1="look"\/Zy (ZE x.cps.toList).1="back"\/Zy (ZE x.cps.toList).1="copy"\/Zy (ZE x.cps.toList).1="in")/\Xd (Zy r)=true then some [.str (Zy (ZE x.cps.toList).1),.str (Zy r)]
       else if Zy (ZE x.cps.toList).1="set" then match (ZE r).2 with
         | none=>none
         | some t=>if Xd (Zy (ZE r).1)=true then match Wp t with
             | none=>none
             | some (v,q)=>if q.head?=some 32/\Xd (Zy (q.drop 1))=true then some [.str "set",.str (Zy (ZE r).1),v,.str (Zy (q.drop 1))] else none
           else none
       else none):=by rw [<- Zgr];unfold XH;(rw [c_ofC]<;>rfl)
 rw [hst] at q1 q2
 clear hst
 obtain ⟨la,lr⟩:=ZeS (x:=x.cps.toList) (n:=90000) (by omega)
 refine ⟨_,rfl,x,rfl,by omega,fun t1 H1 s1 et1=>⟨t1,_,rfl,SqT.of et1,rfl,_,_,rfl,_,_,rfl,rfl,?_⟩⟩
 generalize ZE x.cps.toList=y at la lr q1 q2 et1 ⊢
 obtain ⟨a,o⟩:=y
 dsimp only at la lr q1 q2 et1 ⊢
 refine ⟨_,rfl,(by decide),fun t2 ht2=>⟨t2,[.str "begin",.str "late",.str "pass"],rfl,.inr (SqT.of Ze),rfl,rfl,_,rfl,?_⟩⟩
 have s2:=s1.trans (Zg ht2 (.tup [.str "begin",.str "late",.str "pass"]))
 generalize upd H1 t2 (.tup [.str "begin",.str "late",.str "pass"])=H2 at s2 ⊢
 have i1:=ZbF x ["begin","late","pass"]
 replace i1:YL (.str x) [.str "begin",.str "late",.str "pass"]=decide (x="begin"\/x="late"\/x="pass"):=by
   rw [show [V.str "begin",V.str "late",V.str "pass"]=(["begin","late","pass"]:List Str).map V.str from rfl,i1]
   simp only [mem_cons,not_mem_nil,or_false]
 rw [i1]
 by_cases c0:x="begin"\/x="late"\/x="pass"
 · rw [decide_eq_true c0]
   rw [if_pos c0] at q2
   exact Zx ⟨_,rfl,(by show 1<=Qi;decide),fun t ht=>q2 _ rfl t _ (s2.trans (Zg ht _)) (XQ s2 ht) Ze⟩
 rw [decide_eq_false c0]
 rw [if_neg c0] at q1 q2
 refine Zw ?_
 refine ⟨fun σ H'=>σ=[some (.str x),some (.str (Zy a)),some (ZjM o),none,none]/\Same H H'/\∀ r,o=some r->¬ ((Zy a="look"\/Zy a="back"\/Zy a="copy"\/Zy a="in")/\Xd (Zy r)=true),?_,?_⟩
 · refine ⟨_,rfl,(by decide),fun t3 ht3=>⟨t3,[.str "look",.str "back",.str "copy",.str "in"],rfl,.inr (SqT.of Ze),rfl,rfl,_,rfl,?_⟩⟩
   have s3:=s2.trans (Zg ht3 (.tup [.str "look",.str "back",.str "copy",.str "in"]))
   generalize upd H2 t3 (.tup [.str "look",.str "back",.str "copy",.str "in"])=H3 at s3 ⊢
   have i2:=ZbF (Zy a) ["look","back","copy","in"]
   replace i2:YL (.str (Zy a)) [.str "look",.str "back",.str "copy",.str "in"]=decide (Zy a="look"\/Zy a="back"\/Zy a="copy"\/Zy a="in"):=by
     rw [show [V.str "look",V.str "back",V.str "copy",V.str "in"]=(["look","back","copy","in"]:List Str).map V.str from rfl,i2]
     simp only [mem_cons,not_mem_nil,or_false]
   rw [i2]
   by_cases c1:Zy a="look"\/Zy a="back"\/Zy a="copy"\/Zy a="in"
   · rw [decide_eq_true c1]
     refine Zx ⟨_,rfl,o,rfl,fun r e=>by have:=lr r e;omega,fun H4 s4=>⟨_,rfl,?_⟩⟩
     have s4:=s3.trans s4
     cases o with
     | none=>exact Zw ⟨rfl,s4,fun r z=>nomatch z⟩
     | some r =>
       dsimp only
       cases hn:Xd (Zy r) with
       | false=>exact Zw ⟨rfl,s4,fun r' z h=>by cases z;rw [hn] at h;exact absurd h.2 (by decide)⟩
       | true =>
         dsimp only at q2
         rw [if_pos ⟨c1,hn⟩] at q2
         exact Zx ⟨_,rfl,_,rfl,(by show 2<=Qi;decide),fun t ht=>q2 _ rfl t _ (s4.trans (Zg ht _)) (XQ s4 ht) Ze⟩
   · rw [decide_eq_false c1]
     exact Zw (Zw ⟨rfl,s3,fun r z h=>c1 h.1⟩)
 rintro σ H3 ⟨rfl,s3,hno⟩
 refine ⟨_,rfl,rfl,_,rfl,?_⟩
 by_cases c5:Zy a="set"
 · rw [decide_eq_true (show V.str (Zy a)=V.str "set" by rw [c5])]
   refine Zw ⟨_,rfl,_,rfl,?_⟩
   cases o with
   | none=>exact Zx (q1 rfl H3 s3)
   | some r =>
     refine VA rfl ?_
     have lr:=lr r rfl
     dsimp only at q1 q2
     rw [if_neg (hno r rfl),if_pos c5] at q1 q2
     obtain ⟨lb,lt⟩:=ZeS (x:=r) (n:=90000) lr
     refine ⟨_,rfl,Zy r,rfl,by rw [Zq,Xz];omega,fun t4 H4 s4 et4=>⟨t4,_,rfl,SqT.of et4,rfl,_,_,rfl,_,_,rfl,rfl,?_⟩⟩
     rw [Xz] at et4 ⊢
     generalize ZE r=y at lb lt q1 q2 et4 ⊢
     obtain ⟨n0,o2⟩:=y
     dsimp only at lb lt q1 q2 et4 ⊢
     have s4:=s3.trans s4
     refine ⟨_,rfl,some n0,rfl,fun r e=>by cases e;omega,fun H5 s5=>⟨_,rfl,?_⟩⟩
     have s5:=s4.trans s5
     dsimp only
     cases hnm:Xd (Zy n0) with
     | false =>
       refine Zw (Zw ⟨_,rfl,_,rfl,Zx (Zx (q1 ?_ H5 s5))⟩)
       cases o2 with
       | none=>rfl
       | some tt=>dsimp only;rw [if_neg (by rw [hnm];decide)]
     | true =>
       refine Zx ⟨_,rfl,_,rfl,?_⟩
       cases o2 with
       | none=>exact Zw ⟨_,rfl,_,rfl,Zx (Zx (q1 rfl H5 s5))⟩
       | some tt =>
         have ltt:=lt tt rfl
         dsimp only at q1 q2
         rw [if_pos hnm] at q1 q2
         refine Zx ⟨_,rfl,Zy tt,rfl,by rw [Zq,Xz];omega,fun h H6 s6=>?_,fun v q h t5 H6 s6 et5=>?_⟩
         · rw [Xz] at h
           exact ⟨_,rfl,_,rfl,Zx (Zx (q1 (by rw [h]) H6 (s5.trans s6)))⟩
         · rw [Xz] at h
           have hql:=ZjT h
           have hqx:(Zy q).length<=100000:=by rw [Zq,Xz];omega
           rw [h] at q1 q2
           dsimp only at q1 q2
           have s6:=s5.trans s6
           refine ⟨_,rfl,_,rfl,Zw ?_⟩
           refine ⟨_,rfl,t5,_,_,_,rfl,rfl,SqT.of et5,ZF (j:=1) rfl,?_⟩
           dsimp only [YR]
           refine ⟨_,rfl,Zy q,rfl,Zp hqx,rfl,_,rfl,?_⟩
           by_cases c6:q.head?=some 32
           · rw [decide_eq_true (show V.str (Qs (Zy q) none (some 1))=V.str (Qa " ") by rw [Uq,(WZ (Zy q) 32).mpr c6])]
             have hs:Qs (Zy q) (some 1) none=Zy (q.drop 1):=ZZ (by rw [ZcI];rfl)
             refine Zw ⟨_,rfl,t5,_,_,_,rfl,rfl,SqT.of et5,ZF (j:=1) rfl,_,rfl,Zy q,rfl,Zp hqx,?_⟩
             rw [hs]
             refine ⟨some (q.drop 1),rfl,fun r e=>by cases e;rw [length_drop];omega,fun H7 s7=>⟨_,rfl,?_⟩⟩
             have et7:=s7 _ _ et5
             have s7:=s6.trans s7
             dsimp only
             cases hn2:Xd (Zy (q.drop 1)) with
             | false=>exact Zx (q1 (if_neg (by rw [hn2];exact fun z=>nomatch z.2)) H7 s7)
             | true =>
               refine Zw ⟨_,rfl,_,rfl,t5,_,_,_,rfl,rfl,SqT.of et7,ZF (j:=0) rfl,_,rfl,t5,_,_,_,rfl,rfl,SqT.of et7,ZF (j:=1) rfl,_,rfl,Zy q,rfl,Zp hqx,?_⟩
               rw [hs]
               exact ⟨(by show 4<=Qi;decide),fun t ht=>q2 _ (if_pos ⟨c6,hn2⟩) t _ (s7.trans (Zg ht _)) (XQ s7 ht) Ze⟩
           · rw [decide_eq_false (show ¬ V.str (Qs (Zy q) none (some 1))=V.str (Qa " ") from fun e=>c6 ((WZ (Zy q) 32).mp (by rw [Uq] at e;injection e)))]
             exact Zx (Zx (q1 (if_neg (fun z=>c6 z.1)) H6 s6))
 · rw [decide_eq_false (show ¬ V.str (Zy a)=V.str "set" from fun z=>c5 (by injection z))]
   refine Zx (Zx (q1 ?_ H3 s3))
   cases o with
   | none=>rfl
   | some r=>dsimp only;rw [if_neg (hno r rfl),if_neg c5]
end
theorem Zag {p : Pg}(h:p.ok):p.srow.cps.toList.head?≠some 32:=by
 have hw:∃ c r,p.word.cps.toList=c::r/\c≠32:=by
   cases p with
   | set x v s=>exact ⟨115,[101,116],(show (Qa "set").cps.toList=_ by decide +kernel),by decide⟩
   | look x=>exact ⟨108,[111,111,107],(show (Qa "look").cps.toList=_ by decide +kernel),by decide⟩
   | slot w s => rcases h.1 with rfl | rfl
                 · exact ⟨98,[97,99,107],(show (Qa "back").cps.toList=_ by decide +kernel),by decide⟩
                 · exact ⟨99,[111,112,121],(show (Qa "copy").cps.toList=_ by decide +kernel),by decide⟩
   | pass=>exact ⟨112,[97,115,115],(show (Qa "pass").cps.toList=_ by decide +kernel),by decide⟩
   | blk w ps => rcases h.1 with rfl | rfl
                 · exact ⟨98,[101,103,105,110],(show (Qa "begin").cps.toList=_ by decide +kernel),by decide⟩
                 · exact ⟨108,[97,116,101],(show (Qa "late").cps.toList=_ by decide +kernel),by decide⟩
   | inn s ps=>exact ⟨105,[110],(show (Qa "in").cps.toList=_ by decide +kernel),by decide⟩
 obtain ⟨c,r,e,hc⟩:=hw
 have:∃ r',p.srow.cps.toList=c::r':=by
   unfold Pg.srow
   rw [tj,Uq]
   cases p.ws with
   | nil=>exact ⟨r,e⟩
   | cons a b=>rw [Yf,e];exact ⟨_,rfl⟩
 obtain ⟨r',e'⟩:=this
 rw [e']
 intro z
 exact hc (by simpa using z)
theorem ZiA (p:Nat->Bool)(hp:p 32=true):∀(n:Nat)(l:List Nat),(QI n 32++l).dropWhile p=l.dropWhile p
 | 0,l=>rfl
 | n+1,l=>by rw [replicate_succ,Py,dropWhile_cons,if_pos hp];exact ZiA p hp n l
theorem VS {r:Str}(l:Nat)(h:r.cps.toList.head?≠some 32):QW (XD l r) (Qa " ")=r:=by
 apply ZZ
 rw [Ww,Uq]
 show (QI (2 * l) 32++r.cps.toList).dropWhile _=_
 rw [ZiA _ (by simp)]
 cases e:r.cps.toList with
 | nil=>rfl
 | cons c t =>
  rw [e] at h
  rw [dropWhile_cons,if_neg]
  intro z
  have:c=32:=by simpa using z
  exact h (by rw [this];rfl)
theorem Vd (l:Nat)(r:Str):(XD l r).length=2 * l+r.length:=by
 show (QI (2 * l) 32++r.cps.toList).toArray.size=_
 rw [size_toArray,length_append,Sa,<- Zq]
theorem ZeN {b:Nat}(h:b<=1000):MulOk "  " (b:Int):=by
 refine ⟨?_,fun h1 _=>?_,fun h1 _=>?_⟩
 ·rw [Ps];exact ⟨decide_eq_false (by omega),decide_eq_false (by omega)⟩
 ·rw [show (Qa "  ").length=2 by decide +kernel]
  have:(1000:Int)<=(2 ^ 63 - 1) / (b:Int):=by
   rw [TX (by omega)]
   omega
  omega
 ·rw [show (Qa "  ").length=2 by decide +kernel]
  have:2000<=sizeLine:=by decide
  exact decide_eq_false (by omega)
theorem ZdE:∀(n:Nat)(A:Array Nat),((QI n (#[32,32]:Array Nat)).foldl (·++·) A).toList=A.toList++QI (2 * n) 32
 | 0,A=>by simp
 | n+1,A=>by
  rw [replicate_succ,SK,ZdE n,show 2 * (n+1)=2 * n+1+1 by omega]
  simp [replicate_succ]
theorem ZhW (b:Nat):(PD (Qa "  ") (b:Int)).cps.toList=QI (2 * b) 32:=by
 unfold PD
 match b with
 | 0=>rfl
 | 1=>decide +kernel
 | n+2 =>
  rw [if_neg (by omega),if_neg (by rw [show ((((n+2:Nat)):Int) == 1)=false from decide_eq_false (by omega)];decide +kernel)]
  have:=ZdE (n+2) #[]
  rw [show ((((n+2:Nat)):Int)).toNat=n+2 by omega,show (Qa "  ").cps=#[32,32] by decide +kernel]
  exact this
theorem Ve (l:Nat)(r:Str):PD (Qa "  ") (l:Int)++r=XD l r:=by
 apply ZZ
 rw [Xl,ZhW];rfl
def HdAt (H:Hp)(v:V)(x:Nat×Pg):Prop:=∃ t h,v=.ref t/\H t=some (.tup [.int (x.1:Int),.ref h])/\H h=some (.tup x.2.hv)
theorem HdAt.same {H H':Hp}{v:V}{x:Nat×Pg}(s:Same H H')(h:HdAt H v x):HdAt H' v x:=by
 obtain ⟨t,a,e1,e2,e3⟩:=h;exact ⟨t,a,e1,s _ _ e2,s _ _ e3⟩
theorem HdAt.tf {H H':Hp}{v:V}{x:Nat×Pg}(s:TF H H')(h:HdAt H v x):HdAt H' v x:=by
 obtain ⟨t,a,e1,e2,e3⟩:=h;exact ⟨t,a,e1,s.tup _ _ e2,s.tup _ _ e3⟩
inductive HdL (H:Hp):List V->List (Nat×Pg)->Prop
 | nil:HdL H [] []
 | cons {v x vs xs}:HdAt H v x->HdL H vs xs->HdL H (v::vs) (x::xs)
theorem HdL.tf {H H':Hp}(s:TF H H'):∀{vs xs},HdL H vs xs->HdL H' vs xs
 | _,_,.nil=>.nil
 | _,_,.cons a b=>.cons (a.tf s) (b.tf s)
theorem HdL.app {H:Hp}{v:V}{x:Nat×Pg}:∀{vs xs},HdL H vs xs->HdAt H v x->HdL H (vs++[v]) (xs++[x])
 | _,_,.nil,h=>.cons h .nil
 | _,_,.cons a b,h=>.cons a (b.app h)
theorem HdL.len {H:Hp}:∀{vs xs},HdL H vs xs->vs.length=xs.length
 | _,_,.nil=>rfl
 | _,_,.cons _ b=>by rw [length_cons,length_cons,b.len]
theorem HdL.at {H:Hp}:∀{vs xs}{i:Nat}{v:V},HdL H vs xs->vs[i]?=some v->∃ x,xs[i]?=some x/\HdAt H v x
 | _,_,_,_,.nil,h=>by simp at h
 | _,_,0,_,.cons a _,h=>by cases h;exact ⟨_,rfl,a⟩
 | _,_,i+1,_,.cons _ b,h=>HdL.at (i:=i) b h
theorem Zaf:∀{hs:List (Nat×Pg)}{i:Nat}{x:Nat×Pg}{m:Nat},hs[i]?=some x->Xr m (hs.drop i)->x.1<=m/\Xr (if x.2.isB=true then x.1+1 else x.1) (hs.drop (i+1)):=by
 intro hs i x m h ho
 obtain ⟨h1,h2⟩:=Ql.mp h
 rw [drop_eq_getElem_cons h1,h2] at ho
 obtain ⟨l,p⟩:=x
 exact ho
section
variable {P:Qm}{w:QC}{K:Qb}{mg:Str->Option Qe}{base:Heap}{tk:Tok}
def Zjv:Sp:=fun vs H Q _=>∃(a:Addr)(k:Nat)(hs:List (Nat×Pg)),vs=[.ref a,.int (k:Int)]/\k<=1000/\H a=some (.lst ((hs.map ZY).map V.str))/\(∀ x∈hs,x.2.ok/\x.1<=200)/\Xr 0 hs/\hs.length<=1000/\∀ l vs H',Same H H'->H' l=some (.lst vs)->HdL H' vs hs->Q (.ref l) H'
abbrev nHs:List Str:=["rows","first","heads","most","number","row","words","level","head"]
abbrev Zbx:List Str:=["rows","first"]
theorem scHs:ZB nHs Zbx (Zl s_heads_from):=⟨rfl,rfl,rfl,by decide +kernel,rfl,by decide +kernel,by decide +kernel⟩
theorem ZiW {f:Addr}{fd:Qq}(F:Fun K "heads_from" "heads_from" s_heads_from f fd)(T:Ya mg)(hFI:mg "FURTHER_IN"=some (.str "  " tk))(DHf:Def P w K mg base 6 "head_from" Zha ZeB)(DHw:Def P w K mg base 6 "has_within" ZcE ZaM):FnOk P w K mg base Yc 7 f fd Zbx Zjv:=by
 refine F.ok scHs (fun vs H Q E h=>?_) (fun cdv A outer s H vs Q E hr h=>?_)
 ·obtain ⟨a,_,_,rfl,_⟩:=h;rfl
 obtain ⟨a,k,hs,rfl,hk,ea,hok,hH,hl,q⟩:=h
 refine' ⟨?t,?h,?r⟩
 case h =>
  conv=>arg 2;whnf
  with_reducible refine' (Zf ?h1 (Zf ?h2 (Zf (XX ?h3 ?h4 ?h5 ?h6 (Zf ?h7 (Zf ?h8 (Zf ?h9 (Zf (ZT ?h10 (Zh Zlr) ZI) (Zf ?h11 (Zh ?h12)))))) ?h13) (Zh ?h14))))
  case h1=>exact Zr (i:=2) scHs.nd rfl (Qy rfl) (ZH Za)
  case h2=>exact Zr (i:=3) scHs.nd rfl (Qy rfl) Zc
  case h3=>exact Ga
  case h4=>exact rfl
  case h5=>exact Zei rfl T.enumerate (pv 0) (pv 1)
  case h6=>exact Wb rfl (Ye (ZM (i:=4) scHs.nd rfl (Qy rfl)) (Ye (ZM (i:=5) scHs.nd rfl (Qy rfl)) Xw))
  case h7=>exact Zr (i:=6) scHs.nd rfl (Qy rfl) (ZU Qo JR JS Vq (pv 5) (Zb Zk Za))
  case h8=>exact Zr (i:=7) scHs.nd rfl (Qy rfl) (Zj ZbG (Zj Xh (Zm ZQ rfl T.len Qu (Zb (pv 5) Za)) (Zm ZQ rfl T.len Qu (Zb (pv 6) Za))) (Zm ZQ rfl T.len Qu (Zb (YS rfl hFI (v:=.str "  ") ⟨_,rfl⟩) Za)))
  case h9=>exact Zr (i:=8) scHs.nd rfl (Qy rfl) (Zu DHf hr (Zb (pv 6) Za))
  case h10=>exact PW.pt (Xt (Wu (Ui (pv 8))) (Xt (ZA UG (pv 7) (pv 3) (ZC _)) (Wg (ZA WK (pv 5) (Zj ZJ (Zj WA (YS rfl hFI (v:=.str "  ") ⟨_,rfl⟩) (pv 7)) (pv 6)) (ZC _)))))
  case h11=>exact YW (ZU QG QR QS YG (pv 2) (Zb (ZV (Zb (pv 7) (Zb (pv 8) Za))) Za))
  case h12=>exact Zr (i:=3) scHs.nd rfl (Qy rfl) (Yv (Yo (Zu DHw hr (Zb (ZG YI (pv 8) Zc (fun _ _=>rfl)) Za))) (Zj ZO (pv 7) Zc) (pv 7))
  case h13=>exact fun _=>rfl
  case h14=>exact Zo (pv 2)
 refine ⟨(by show 0<=Qi;decide),fun l hl0=>?_⟩
 refine ⟨_,rfl,a,rfl,_,rfl,k,_,rfl,by omega,Zg hl0 _ _ _ ea,?_⟩
 refine ZdC (k:=k) (xs:=(hs.map ZY).map V.str) (fun i σ H'=>∃ (m:Nat) (vs:List V) (x4 x5 x6 x7 x8:Option V),σ=[some (.ref a),some (.int (k:Int)),some (.ref l),some (.int (m:Int)),x4,x5,x6,x7,x8]/\Same H H'/\H' l=some (.lst vs)/\HdL H' vs (hs.take i)/\Xr m (hs.drop i)) ⟨0,[],_,_,_,_,_,rfl,Zg hl0 _,Ze,.nil,hH⟩ (fun i σ H' _ ⟨_,_,_,_,_,_,_,_,s',_⟩=>SqL.of (s' _ _ ea)) ?_ ?_
 ·rintro i x t σ H' hx ht ⟨m,vs,x4,x5,x6,x7,x8,rfl,s',el,hd,ho⟩
  rw [getElem?_map,getElem?_map] at hx
  obtain ⟨r,er,rfl⟩:=QD.mp hx
  obtain ⟨y,ey,rfl⟩:=QD.mp er
  obtain ⟨hp,hlv⟩:=hok y (mem_of_getElem? ey)
  have hsl:=Xs hp
  obtain ⟨lv,p⟩:=y
  have hrl:(ZY (lv,p)).length=2 * lv+p.srow.length:=Vd _ _
  have hlv:lv<=200:=hlv
  have hp:p.ok:=hp
  have hsl:p.srow.length<=500:=hsl
  obtain ⟨ho1,ho2⟩:=Zaf ey ho
  have ho1:lv<=m:=ho1
  have hil:i < hs.length:=(Ql.mp ey).1
  have s1:=Zg ht (.tup [.int ((i+k:Nat):Int),.str (ZY (lv,p))])
  refine ⟨t,_,rfl,SqT.of Ze,rfl,_,_,rfl,_,_,rfl,rfl,?_⟩
  generalize upd H' t (.tup [.int ((i+k:Nat):Int),.str (ZY (lv,p))])=H1 at s1 ⊢
  refine ⟨_,rfl,rfl,_,_,rfl,rfl,by rw [hrl];omega,?_⟩
  rw [show QW (ZY (lv,p)) (Qa " ")=p.srow from VS lv (Zag hp)]
  refine ⟨_,rfl,_,rfl,Zp (show _<=1000 by rw [hrl];omega),_,rfl,_,rfl,Zp (show _<=1000 by omega),_,_,rfl,rfl,_,rfl,(by decide +kernel),_,_,rfl,rfl,(by rw [show (Qa "  ").length=2 by decide +kernel];exact ⟨by decide,by decide⟩),?_⟩
  dsimp only
  rw [show (((ZY (lv,p)).length:Int) - (p.srow.length:Int)) / ((Qa "  ").length:Int)=(lv:Int) by rw [show (Qa "  ").length=2 by decide +kernel,hrl];omega]
  refine ⟨_,rfl,p.srow,rfl,by omega,fun z=>absurd z (by rw [Uv hp];simp),fun hvs z h H2 s2 hh0 eh=>?_⟩
  rw [Uv hp] at z
  cases z
  refine ⟨_,rfl,_,rfl,Zw ?_⟩
  refine ⟨_,rfl,_,rfl,_,_,rfl,rfl,_,rfl,?_⟩
  rw [decide_eq_false (show ¬ ((m:Int) < (lv:Int)) by omega)]
  refine Zw ⟨_,rfl,_,rfl,_,_,rfl,rfl,ZeN (by omega),_,rfl,_,_,rfl,rfl,?_,rfl,_,rfl,?_⟩
  ·have e:=congrArg Oo (Ve lv p.srow)
   rw [Yy,Vd] at e
   exact Zp (show _<=1000 by omega)
  rw [Ve,decide_eq_true (show V.str (ZY (lv,p))=V.str (XD lv p.srow) from rfl)]
  refine Zw ?_
  refine ⟨_,rfl,.inl ⟨rfl,_,SqL.of (s2 _ _ (s1 _ _ el))⟩,_,rfl,_,rfl,(by show 2<=Qi;decide),fun pt hpt=>?_⟩
  dsimp only [Xf]
  have s3:=Zg hpt (.tup [.int (lv:Int),.ref h])
  have ept:upd H2 pt (.tup [.int (lv:Int),.ref h]) pt=_:=Ze
  have el2:=s3 _ _ (s2 _ _ (s1 _ _ el))
  have eh2:=s3 _ _ eh
  have hd2:=hd.tf ((s1.trans s2).trans s3).tf
  have s03:Same H _:=((s'.trans s1).trans s2).trans s3
  generalize upd H2 pt (.tup [.int (lv:Int),.ref h])=H3 at s03 ept el2 eh2 hd2 ⊢
  have hvl:=hd2.len
  refine ⟨l,_,_,rfl,rfl,el2,Wq (show _<=1000 by rw [hvl,length_take];omega),?_⟩
  have t4:TF H3 (upd H3 l (.lst (vs++[.ref pt]))):=Zaz el2
  have s4:Same H (upd H3 l (.lst (vs++[.ref pt]))):=XC s03 hl0
  have el4:upd H3 l (.lst (vs++[.ref pt])) l=_:=Ze
  generalize upd H3 l (.lst (vs++[.ref pt]))=H4 at t4 s4 el4 ⊢
  have hd4:HdL H4 (vs++[.ref pt]) (hs.take (i+1)):=by
   rw [take_add_one,ey]
   exact (hd2.tf t4).app ⟨pt,h,rfl,t4.tup _ _ ept,t4.tup _ _ eh2⟩
  refine ⟨_,rfl,h,_,_,_,rfl,rfl,SqT.of (t4.tup _ _ eh2),ZF (j:=0) rfl,p.word,p.isB,rfl,ZaR hp,_,rfl,?_⟩
  cases hb:p.isB with
  | true =>
   rw [if_pos hb] at ho2
   exact Zx ⟨_,rfl,_,_,rfl,rfl,lv+1,_,_,_,_,_,_,rfl,s4,el4,hd4,ho2⟩
  | false =>
   rw [if_neg (by rw [hb];decide)] at ho2
   exact Zw ⟨_,rfl,lv,_,_,_,_,_,_,rfl,s4,el4,hd4,ho2⟩
 ·rintro σ H' ⟨m,vs,x4,x5,x6,x7,x8,rfl,s',el,hd,ho⟩
  rw [length_map,length_map,take_length] at hd
  exact ⟨_,rfl,q l vs H' s' el hd⟩
end
theorem Zdt {κ:Type}[DecidableEq κ](k j:κ):∀ kvs:List (κ×V),YJ (Wm kvs k) j=if j=k then none else YJ kvs j
 | []=>by split<;>rfl
 | p :: r=>by
  have ih:=Zdt k j r
  by_cases hp:p.1=k
  ·have e:Wm (p::r) k=Wm r k:=by simp [Wm,hp]
   rw [e,ih]
   by_cases hj:j=k
   ·rw [if_pos hj,if_pos hj]
   ·rw [if_neg hj,if_neg hj,YO (by rw [hp];exact fun z=>hj z.symm)]
  ·have e:Wm (p::r) k=p::Wm r k:=by simp [Wm,hp]
   rw [e]
   by_cases hj:p.1=j
   ·rw [YX hj,YX hj,if_neg (by rw [<- hj];exact hp)]
   ·rw [YO hj,YO hj,ih]
theorem Zmc {κ:Type}[DecidableEq κ](kvs:List (κ×V))(k:κ)(v:V):(WS kvs k v).length<=kvs.length+1:=by
 unfold WS;split<;>simp
theorem Zko {κ:Type}[DecidableEq κ](kvs:List (κ×V))(k:κ):(Wm kvs k).length<=kvs.length:=length_filter_le _ _
abbrev kI (n:Nat):Ys:=.inl (n:Int)
theorem kI_inj {a b:Nat}:kI a=kI b↔a=b:=by
 constructor
 ·intro h;injection h with h;omega
 ·rintro rfl;rfl
def LvAt (K:Qb)(H:Hp)(d:Addr)(o:Option V)(ps:List Pg):Prop:=match o with
 | none=>ps=[]
 | some v=>∃ a xs,v=.ref a/\a≠d/\H a=some (.lst xs)/\DatTs K H xs (Pg.dats ps)
theorem LvAt.same {K:Qb}{H H':Hp}{d:Addr}{o:Option V}{ps:List Pg}(s:Same H H')(h:LvAt K H d o ps):LvAt K H' d o ps:=by
 cases o with
 | none=>exact h
 | some v=>obtain ⟨a,xs,e1,e2,e3,e5⟩:=h;exact ⟨a,xs,e1,e2,s _ _ e3,e5.same s⟩
theorem LvAt.upd {K:Qb}{H:Hp}{d:Addr}{kvs:List (Ys×V)}{o:Option V}{ps:List Pg}{u:HO}(e:H d=some (.dK kvs))(h:LvAt K H d o ps):LvAt K (upd H d u) d o ps:=by
 cases o with
 | none=>exact h
 | some v=>obtain ⟨a,xs,e1,e2,e3,e5⟩:=h;exact ⟨a,xs,e1,e2,by rw [Zn e2];exact e3,e5.tf (VB e)⟩
theorem Zig {K:Qb}{H:Hp}{p:Pg}(hp:p.ok)(hb:p.isB=false){a:Addr}(h:SqT K H a p.hv):DatT K H (.ref a) p.dat:=by
 have vv:∀ v,IsVal v->DatT K H v (VW v):=fun v hv=>by
  cases v with
  | int i=>exact .int i
  | str x=>exact .str x
  | _=>exact hv.elim
 cases p with
 | set x v s=>exact .tup h (.cons (.str _) (.cons (.str _) (.cons (vv v hp.2.1) (.cons (.str _) .nil))))
 | look x=>exact .tup h (.cons (.str _) (.cons (.str _) .nil))
 | slot w s=>exact .tup h (.cons (.str _) (.cons (.str _) .nil))
 | pass=>exact .tup h (.cons (.str _) .nil)
 | blk w ps=>cases hb
 | inn s ps=>cases hb
theorem ZfJ {K:Qb}{H:Hp}{p:Pg}(hb:p.isB=true){a t:Addr}{xs:List V}(h:SqT K H a (p.hv++[.ref t]))(ht:SqT K H t xs)(hd:DatTs K H xs (Pg.dats p.inner)):DatT K H (.ref a) p.dat:=by
 cases p with
 | set x v s=>cases hb
 | look x=>cases hb
 | slot w s=>cases hb
 | pass=>cases hb
 | blk w ps=>exact .tup h (.cons (.str _) (.cons (.tup ht hd) .nil))
 | inn s ps=>exact .tup h (.cons (.str _) (.cons (.str _) (.cons (.tup ht hd) .nil)))
theorem ZfE:∀{hs:List (Nat×Pg)}{i:Nat},Wf hs->Wf (hs.drop i)
 | hs,0,h=>h
 | [],i+1,h=>h
 | (l,p)::r,i+1,h=>ZfE (hs:=r) (i:=i) h.2
theorem Zen:∀(S:List (Nat×Pg))(k:Nat),(Dm S k).length<=S.length
 | [],_=>Qh _
 | (l,p)::r,k=>by
  have h1:=Zen r l
  have h2:=Zen r k
  rw [Dm]
  split
  ·rw [length_cons,length_cons];omega
  ·split
   ·exact Qp _
   ·rw [length_cons];omega
theorem Zix {K:Qb}{H:Hp}{d:Addr}{kvs:List (Ys×V)}{M:Nat->List Pg}{σ:St}{i:Nat}{ty:TE}{k:Nat}{Q:VK}(h1:σ[i]?=some (some (.ref d)))(hy:∀ H' R,R (.int (k:Int)) H'->ty σ H' R)(e:H d=some (.dK kvs))(hM:∀ k,LvAt K H d (YJ kvs (kI k)) (M k))
 (q:∀ b xs H2,Same H H2->b≠d->H2 b=some (.lst xs)->DatTs K H2 xs (Pg.dats (M k))->Q (.ref b) H2):ZiU (XV i) ty (ZcL Xf) σ H Q:=by
 refine ⟨_,h1,d,rfl,.inl ⟨_,.inl e⟩,hy _ _ ⟨(by show 0<=Qi;decide),fun l hl=>?_⟩⟩
 have s1:=Zg hl (.lst [])
 refine ⟨YJ kvs (kI k),.inl ⟨kvs,kI k,.inl (s1 _ _ e),rfl,rfl⟩,?_⟩
 have hk:=hM k
 cases ev:YJ kvs (kI k) with
 | none =>
  rw [ev] at hk
  have hk:M k=[]:=hk
  exact q l [] _ s1 (fun z=>by rw [z,e] at hl;cases hl) Ze (by rw [hk];exact .nil)
 | some v =>
  rw [ev] at hk
  obtain ⟨b,xs,rfl,e2,e3,e5⟩:=hk
  exact q b xs _ s1 e2 (s1 _ _ e3) (e5.same s1)
theorem Znw {K:Qb}{H:Hp}{d:Addr}{kvs:List (Ys×V)}{M:Nat->List Pg}{σ:St}{i:Nat}{ty:TE}{k n:Nat}{Q:VK}(h1:σ[i]?=some (some (.ref d)))(hy:∀ H' R,R (.int (k:Int)) H'->ty σ H' R)(e:H d=some (.dK kvs))(hn:kvs.length<=n)(hM:∀ k,LvAt K H d (YJ kvs (kI k)) (M k))
 (q:∀ b xs kvs' H2,TF H H2->(∀ c o,c≠d->H c=some o->H2 c=some o)->H2 d=some (.dK kvs')->kvs'.length<=n->(∀ j,LvAt K H2 d (YJ kvs' (kI j)) (if j=k then [] else M j))->b≠d->H2 b=some (.lst xs)->DatTs K H2 xs (Pg.dats (M k))->Q (.ref b) H2):ZhX (XV i) ty (ZcL Xf) σ H Q:=by
 refine ⟨_,h1,d,rfl,.inl ⟨_,.inl e⟩,hy _ _ ⟨(by show 0<=Qi;decide),fun l hl=>?_⟩⟩
 have s1:=Zg hl (.lst [])
 have hl1:upd H l (.lst []) l=some (.lst []):=Ze
 have hld:l≠d:=fun z=>by rw [z,e] at hl;cases hl
 have e1:=s1 _ _ e
 generalize upd H l (.lst [])=H1 at s1 hl1 e1 ⊢
 have hk:=hM k
 refine ⟨kvs,kI k,e1,rfl,fun v ev=>?_,fun ev=>?_⟩
 ·rw [ev] at hk
  obtain ⟨b,xs,rfl,e2,e3,e5⟩:=hk
  refine q b xs (Wm kvs (kI k)) _ (s1.tf.trans (VB e1)) (fun c o hc z=>by rw [Zn hc];exact s1 _ _ z) Ze (Qw (Zko _ _) hn) (fun j=>?_) e2 (by rw [Zn e2];exact s1 _ _ e3) (e5.tf (s1.tf.trans (VB e1)))
  rw [Zdt]
  by_cases c:j=k
  ·rw [if_pos (by rw [c]),if_pos c];rfl
  ·rw [if_neg (fun z=>c (kI_inj.mp z)),if_neg c]
   exact ((hM j).same s1).upd e1
 ·rw [ev] at hk
  have hk:M k=[]:=hk
  refine q l [] kvs H1 s1.tf (fun c o hc z=>s1 _ _ z) e1 hn (fun j=>?_) hld hl1 (by rw [hk];exact .nil)
  by_cases c:j=k
  ·rw [if_pos c,c,ev];rfl
  ·rw [if_neg c];exact (hM j).same s1
section
variable {P:Qm}{w:QC}{K:Qb}{mg:Str->Option Qe}{base:Heap}{tk:Tok}
def Zkg (K:Qb):Sp:=fun vs H Q _=>∃(a:Addr)(us:List V)(ps:List Pg),vs=[.ref a]/\H a=some (.lst us)/\HdL H us (YB 0 ps)/\Pg.oks ps/\Pg.manys ps<=1000/\∀ t H',Same H H'->DatT K H' t (.tuple (Pg.dats ps))->Q t H'
abbrev nPo:List Str:=["heads","steps_at","level","head","step"]
abbrev ZgC:List Str:=["heads"]
theorem scPo:ZB nPo ZgC (Zl s_program_of):=⟨rfl,rfl,rfl,by decide +kernel,rfl,by decide +kernel,by decide +kernel⟩
theorem Zjo {f:Addr}{fd:Qq}(F:Fun K "program_of" "program_of" s_program_of f fd)(T:Ya mg)(DHw:Def P w K mg base 2 "has_within" ZcE ZaM):FnOk P w K mg base Yc 3 f fd ZgC (Zkg K):=by
 refine F.ok scPo (fun vs H Q E h=>?_) (fun cdv A outer s H vs Q E hr h=>?_)
 ·obtain ⟨a,_,_,rfl,_⟩:=h;rfl
 obtain ⟨a,us,ps,rfl,ea,hd,ho,hm,q⟩:=h
 refine' ⟨?t,?h,?r⟩
 case h =>
  conv=>arg 2;whnf
  with_reducible refine' (Zf ?h1 (Zf (XX ?h2 ?h3 ?h4 ?h5 (Zf ?h6 (Xq (ZT ?h7 (Zh ?h8) ZI) (Zh ?h9))) ?h10) (Zh ?h11)))
  case h1=>exact Zr (i:=1) scPo.nd rfl (Qy rfl) Zkx
  case h2=>exact Ga
  case h3=>exact rfl
  case h4=>exact ZcO (ZmI (pv 0))
  case h5=>exact Wb rfl (Ye (ZM (i:=2) scPo.nd rfl (Qy rfl)) (Ye (ZM (i:=3) scPo.nd rfl (Qy rfl)) Xw))
  case h6=>exact Zr (i:=4) scPo.nd rfl (Qy rfl) (pv 3)
  case h7=>exact Yo (Zu DHw hr (Zb (ZG YI (pv 3) Zc (fun _ _=>rfl)) Za))
  case h8=>exact Zr (i:=4) scPo.nd rfl (Qy rfl) (Zj ZcK (pv 3) (ZV (Zb (Yw We rfl T.tuple (by decide +kernel) (Zb (Zkp (pv 1) (Zj ZO (pv 2) Zc) (ZH Za) ⟨rfl,rfl,rfl,rfl⟩) Za)) Za)))
  case h9=>exact ZmM (Zgs hr) (pv 1) (pv 2) (Zj Yi (ZH (Zb (pv 4) Za)) (Zet (Zgs hr) (pv 1) (pv 2) (ZH Za) ⟨rfl,rfl,rfl,rfl⟩)) rfl
  case h10=>exact fun _=>rfl
  case h11=>exact Zo (Yw We rfl T.tuple (by decide +kernel) (Zb (Zet (Zgs hr) (pv 1) Zc (ZH Za) ⟨rfl,rfl,rfl,rfl⟩) Za))
 obtain ⟨pd1,pd2,_⟩:=ZfR ps
 have hlen:(YB 0 ps).length<=1000:=by rw [ZbB];exact hm
 have hall:=Uw ps 0 ho
 generalize YB 0 ps=hs at hd pd1 pd2 hlen hall
 have hul:=hd.len
 intro d hd0
 have hed:upd H d (.dK []) d=some (.dK []):=Ze
 have sd:=Zg hd0 (.dK [])
 refine ⟨_,rfl,a,us,rfl,SqL.of (sd _ _ ea),fun rv hrv0=>?_⟩
 refine ⟨rv,rfl,⟨_,SqL.of Ze⟩,?_⟩
 have srv:=Zg hrv0 (.lst us.reverse)
 have hrd:rv≠d:=fun z=>by rw [z,hed] at hrv0;cases hrv0
 refine Zks (xs:=us.reverse) (fun i σ H'=>∃ (x2 x3 x4:Option V) (kvs:List (Ys×V)),σ=[some (.ref a),some (.ref d),x2,x3,x4]/\Same H H'/\H' rv=some (.lst us.reverse)/\H' d=some (.dK kvs)/\kvs.length<=i/\∀ k,LvAt K H' d (YJ kvs (kI k)) (Dm (hs.drop (hs.length - i)) k)) ⟨_,_,_,[],rfl,sd.trans srv,Ze,srv _ _ hed,Qh _,fun k=>by rw [SX,Oa];rfl⟩ (fun i σ H' _ ⟨_,_,_,_,_,_,e,_⟩=>SqL.of e) ?_ ?_
 ·rintro i v σ H' hv ⟨x2,x3,x4,kvs,rfl,s',erv,ed,hkl,hM⟩
  have hi:i < us.length:=by have:=(Ql.mp hv).1;rwa [length_reverse] at this
  rw [Se hi] at hv
  obtain ⟨x,ex,t,h,rfl,et,eh⟩:=hd.at hv
  obtain ⟨lv,p⟩:=x
  obtain ⟨hp,_⟩:=hall _ (mem_of_getElem? ex)
  have hp:p.ok:=hp
  have hdrop:hs.drop (hs.length - (i+1))=(lv,p)::hs.drop (hs.length - i):=by
   obtain ⟨z1,z2⟩:=Ql.mp ex
   rw [show hs.length - (i+1)=us.length - 1 - i by omega,drop_eq_getElem_cons z1,z2,show us.length - 1 - i+1=hs.length - i by omega]
  have hW:=ZfE (i:=hs.length - (i+1)) pd2
  rw [hdrop] at hW
  have hlS:(hs.drop (hs.length - i)).length<=1000:=by rw [length_drop];omega
  refine ⟨t,_,rfl,SqT.of (s' _ _ et),rfl,_,_,rfl,_,_,rfl,rfl,_,rfl,?_⟩
  rw [hdrop]
  generalize hs.drop (hs.length - i)=S at hM hW hlS
  refine ⟨fun σ H2=>∃ (st:Addr) (kvs:List (Ys×V)),σ=[some (.ref a),some (.ref d),some (.int (lv:Int)),some (.ref h),some (.ref st)]/\Same H H2/\H2 rv=some (.lst us.reverse)/\H2 d=some (.dK kvs)/\kvs.length<=i/\(∀ k,LvAt K H2 d (YJ kvs (kI k)) (if k=lv+1/\p.isB=true then [] else Dm S k))/\DatT K H2 (.ref st) p.dat,?_,?_⟩
  ·refine ⟨_,rfl,h,_,_,_,rfl,rfl,SqT.of (s' _ _ eh),ZF (j:=0) rfl,p.word,p.isB,rfl,ZaR hp,_,rfl,?_⟩
   cases hb:p.isB with
   | false =>
    refine Zw ⟨h,kvs,rfl,s',erv,ed,hkl,fun k=>?_,Zig hp hb (SqT.of (s' _ _ eh))⟩
    rw [if_neg (fun z=>nomatch z.2)];exact hM k
   | true =>
    refine Zx ⟨_,rfl,?_⟩
    refine Znw (k:=lv+1) (n:=i) rfl (fun H' R r=>⟨_,rfl,_,_,rfl,rfl,r⟩) ed hkl hM fun b xs kvs' H2 tf keep ed2 hn2 hM2 hbd eb hdat=>?_
    have s2:Same H H2:=fun c o e=>keep c o (fun z=>by rw [z,hd0] at e;cases e) (s' _ _ e)
    rw [hW.1 hb] at hdat
    dsimp only [Xf]
    refine ⟨b,xs,rfl,.inl ⟨SqL.of eb,fun l1 hl1=>⟨(by show 1<=Qi;decide),fun p2 hp2=>?_⟩⟩⟩
    have s3:=(Zg hl1 (.tup xs)).trans (Zg hp2 (.tup [.ref l1]))
    have el1:=Zg hp2 (.tup [.ref l1]) l1 _ (show upd H2 l1 (.tup xs) l1=_ from Ze)
    have ep2:upd (upd H2 l1 (.tup xs)) p2 (.tup [.ref l1]) p2=_:=Ze
    generalize upd (upd H2 l1 (.tup xs)) p2 (.tup [.ref l1])=H3 at s3 el1 ep2 ⊢
    have eh3:=s3 _ _ (tf.tup _ _ (s' _ _ eh))
    refine ⟨h,p2,p.hv,[.ref l1],rfl,rfl,SqT.of eh3,SqT.of ep2,by unfold Pg.hv;simp,?_,fun z=>(nomatch z),fun _ p3 hp3=>?_⟩
    ·exact Zp (show _<=100 by unfold Pg.hv;cases p<;>simp [Pg.vl])
    have s4:=Zg hp3 (.tup (p.hv++[.ref l1]))
    have s34:=s3.trans s4
    refine ⟨p3,kvs',rfl,s2.trans s34,s34 _ _ (keep _ _ hrd erv),s34 _ _ ed2,hn2,fun k=>?_,ZfJ hb (SqT.of Ze) (SqT.of (s4 _ _ el1)) (hdat.same s34)⟩
    have:=(hM2 k).same s34
    by_cases c:k=lv+1
    ·rw [if_pos c] at this;rw [if_pos ⟨c,rfl⟩];exact this
    ·rw [if_neg c] at this;rw [if_neg (fun z=>c z.1)];exact this
  ·rintro σ H2 ⟨st,kvs,rfl,s2,erv2,ed2,hkl2,hM2,hst⟩
   refine ⟨_,rfl,(by show 1<=Qi;decide),fun l1 hl1=>?_⟩
   have s3:=Zg hl1 (.lst [.ref st])
   have el1:upd H2 l1 (.lst [.ref st]) l1=_:=Ze
   have ed3:=s3 _ _ ed2
   have hM3:=fun k=>(hM2 k).same s3
   generalize upd H2 l1 (.lst [.ref st])=H3 at s3 el1 ed3 hM3 ⊢
   refine Zix (k:=lv) rfl (fun H' R r=>⟨_,rfl,r⟩) ed3 hM3 fun b xs H4 s4 hbd eb hdat=>?_
   have hml:=Zen S lv
   rw [if_neg (fun z=>absurd z.1 (by omega))] at hdat
   have hxl:xs.length<=1000:=by rw [hdat.pgs];omega
   refine ⟨l1,b,_,_,rfl,rfl,s4 _ _ el1,eb,Zp (show _<=1001 by rw [length_singleton];omega),fun l2 hl2=>?_⟩
   have s5:=Zg hl2 (.lst ([.ref st]++xs))
   have el2:upd H4 l2 (.lst ([.ref st]++xs)) l2=_:=Ze
   have ed5:=s5 _ _ (s4 _ _ ed3)
   have hl2d:l2≠d:=fun z=>by have ed4:=s4 _ _ ed3;rw [z,ed4] at hl2;cases hl2
   have s25:=(s3.trans s4).trans s5
   generalize upd H4 l2 (.lst ([.ref st]++xs))=H5 at s5 el2 ed5 s25 ⊢
   refine ⟨_,rfl,_,rfl,d,_,rfl,.inl ⟨kvs,kI lv,ed5,rfl,Wq (show _<=1000 by omega),rfl⟩,?_⟩
   refine ⟨_,_,_,WS kvs (kI lv) (.ref l2),rfl,fun c o e=>?_,?_,Ze,?_,fun k=>?_⟩
   ·rw [Zn (fun z=>by rw [z,hd0] at e;cases e)];exact s25 _ _ (s2 _ _ e)
   ·rw [Zn hrd];exact s25 _ _ erv2
   ·have:=Zmc kvs (kI lv) (.ref l2);omega
   ·rw [Zlc]
    by_cases c:k=lv
    ·rw [if_pos (by rw [c]),c]
     show LvAt K _ d (some (.ref l2)) (if lv=lv then p::Dm S lv else _)
     rw [if_pos rfl]
     exact ⟨l2,_,rfl,hl2d,by rw [Zn hl2d];exact el2,.cons ((hst.same s25).tf (VB ed5)) ((hdat.same s5).tf (VB ed5))⟩
    ·rw [if_neg (fun z=>c (kI_inj.mp z))]
     show LvAt K _ d _ (if k=lv then _ else if k=lv+1/\p.isB=true then [] else Dm S k)
     rw [if_neg c]
     exact ((hM2 k).same s25).upd ed5
 ·rintro σ H' ⟨x2,x3,x4,kvs,rfl,s',erv,ed,hkl,hM⟩
  rw [length_reverse,hul,TL,drop_zero] at hM
  dsimp only [ZkT,tCB,Xa]
  refine Zix (i:=1) (σ:=[some (.ref a),some (.ref d),x2,x3,x4]) (k:=0) (ty:=tC (.int 0)) rfl (fun H' R r=>r) ed hM fun b xs H2 s2 hbd eb hdat=>?_
  rw [pd1] at hdat
  dsimp only [Xf]
  exact ⟨b,xs,rfl,.inl ⟨SqL.of eb,fun l1 hl1=>q _ _ ((s'.trans s2).trans (Zg hl1 _)) (.tup (SqT.of Ze) (hdat.same (Zg hl1 _)))⟩⟩
end
theorem VJ {x:Str}(h:Yg x):x.cps.toList.all Yz=true:=(Zld h).2
theorem Zip:∀ l:List Nat,l.all Yz=true->(YN l).all Yz=true
 | [],_=>rfl
 | k :: r,h=>by
  rw [So,QL] at h
  have ih:=Zip r h.2
  have e:YN (k::r)=(if k=39\/k=92 then [92,k] else [k])++YN r:=rfl
  rw [e,all_append,ih,Bool.and_true]
  split
  ·rename_i hk
   rcases hk with rfl | rfl<;>decide
  ·simp [h.1]
theorem ZmA {v:V}(h:IsVal v):(Yk v).cps.toList.all Yz=true:=by
 cases v with
 | int i =>
  rw [all_eq_true]
  intro c hc
  have:=Ziu (show c∈(Qa (Gn i)).cps.toList from hc)
  unfold Yz
  simp only [QL,decide_eq_true_eq]
  omega
 | str x =>
  show (39::YN x.cps.toList++[39]).all Yz=true
  rw [all_append,So,Zip _ h.2];rfl
 | _=>exact h.elim
theorem Zgd:∀ L:List Str,(∀ x∈L,x.cps.toList.all Yz=true)->(Ge ⟨#[32]⟩ L).cps.toList.all Yz=true
 | [],_=>rfl
 | [x],h=>h x (mem_cons_self ..)
 | x::y::r,h=>by
  rw [Yf,all_append,So,h x (mem_cons_self ..),Zgd (y::r) fun z hz=>h z (mem_cons_of_mem _ hz)];rfl
theorem ZlT {p : Pg}(h:p.ok):p.srow.cps.toList.all Yz=true:=by
 unfold Pg.srow
 rw [tj,Uq]
 refine Zgd _ fun x hx=>?_
 rcases mem_cons.mp hx with rfl | hx
 · cases p with
   | set x v s=>exact (show (Qa "set").cps.toList.all Yz=true by decide +kernel)
   | look x=>exact (show (Qa "look").cps.toList.all Yz=true by decide +kernel)
   | slot w s => rcases h.1 with rfl | rfl
                 · exact (show (Qa "back").cps.toList.all Yz=true by decide +kernel)
                 · exact (show (Qa "copy").cps.toList.all Yz=true by decide +kernel)
   | pass=>exact (show (Qa "pass").cps.toList.all Yz=true by decide +kernel)
   | blk w ps => rcases h.1 with rfl | rfl
                 · exact (show (Qa "begin").cps.toList.all Yz=true by decide +kernel)
                 · exact (show (Qa "late").cps.toList.all Yz=true by decide +kernel)
   | inn s ps=>exact (show (Qa "in").cps.toList.all Yz=true by decide +kernel)
 · cases p with
   | set y v s =>
     simp only [Pg.ws,mem_cons,not_mem_nil,or_false] at hx
     rcases hx with rfl | rfl | rfl
     · exact VJ h.1
     · exact ZmA h.2.1
     · exact VJ h.2.2
   | look y=>simp only [Pg.ws,mem_cons,not_mem_nil,or_false] at hx;rw [hx];exact VJ h
   | slot w s=>simp only [Pg.ws,mem_cons,not_mem_nil,or_false] at hx;rw [hx];exact VJ h.2
   | pass=>exact (nomatch hx)
   | blk w ps=>exact (nomatch hx)
   | inn s ps=>simp only [Pg.ws,mem_cons,not_mem_nil,or_false] at hx;rw [hx];exact VJ h.1
theorem Zev {ps:List Pg}(h:Pg.oks ps):∀ r∈ZN ps,(10:Nat) ∉ r.cps.toList:=by
 intro r hr hc
 rw [Ux] at hr
 obtain ⟨⟨l,p⟩,hx,rfl⟩:=SY.mp hr
 have hp:=(Uw ps 0 h _ hx).1
 rcases mem_append.mp (show (10:Nat)∈QI (2 * l) 32++p.srow.cps.toList from hc) with hc | hc
 ·have:=List.eq_of_mem_replicate hc;omega
 ·have:=all_eq_true.mp (ZlT hp) 10 hc
  exact absurd this (by decide)
theorem ZdI {p:Pg}{ps:List Pg}(h:Pg.oks (p::ps)):QF (Vp (p::ps)) (Qa "\n")=ZN (p::ps):=by
 unfold Vp
 rw [tj,lf1]
 refine VX (fun e=>?_) (Zev h)
 have:=congrArg JT e
 rw [Xg,length_nil] at this
 have h2:=Pg.many_pos p
 have:p.many+Pg.manys ps=0:=this
 omega
theorem ZmO {p : Pg}{ps:List Pg}(h:Pg.oks (p::ps)):(Vp (p::ps)).length≠0:=fun e=>by
 have hs:=ZdI h
 have e0:(Vp (p::ps)).cps.toList=[]:=eq_nil_of_length_eq_zero (by rw [<- Zq];exact e)
 have e1:ZN (p::ps)=[Vp (p::ps)]:=by rw [<- hs,lf1];exact Zau (by rw [e0];simp)
 have e2:p.srow∈ZN (p::ps):=by
   show p.srow∈rws p++ZN ps
   rw [Wd];exact Ju _ (mem_cons_self ..)
 rw [e1] at e2
 have e3:=mem_singleton.mp e2
 have hw:p.srow.cps.toList=[]:=by rw [e3];exact e0
 have hj:=congrArg JT hw
 unfold Pg.srow at hj
 rw [tj,Uq] at hj
 have hwn:p.word.cps.toList≠[]:=by
   have h1:=h.1
   cases p with
   | set x v s=>exact (show (Qa "set").cps.toList≠[] by decide +kernel)
   | look x=>exact (show (Qa "look").cps.toList≠[] by decide +kernel)
   | slot w s => rcases h1.1 with rfl | rfl
                 · exact (show (Qa "back").cps.toList≠[] by decide +kernel)
                 · exact (show (Qa "copy").cps.toList≠[] by decide +kernel)
   | pass=>exact (show (Qa "pass").cps.toList≠[] by decide +kernel)
   | blk w ps => rcases h1.1 with rfl | rfl
                 · exact (show (Qa "begin").cps.toList≠[] by decide +kernel)
                 · exact (show (Qa "late").cps.toList≠[] by decide +kernel)
   | inn s ps=>exact (show (Qa "in").cps.toList≠[] by decide +kernel)
 cases hws:p.ws with
 | nil=>rw [hws] at hj;exact hwn (eq_nil_of_length_eq_zero hj)
 | cons a b=>rw [hws,Yf] at hj;simp at hj
section
variable {P:Qm}{w:QC}{K:Qb}{mg:Str->Option Qe}{base:Heap}{tk:Tok}
def ZjU (K:Qb):Sp:=fun vs H Q _=>∃ ps:List Pg,vs=[.str (Vp ps)]/\Pg.oks ps/\Pg.hgts ps<=100/\Pg.manys ps<=1000/\∀ t H',Same H H'->DatT K H' t (.tuple (Pg.dats ps))->Q t H'
abbrev nPm:List Str:=["text","rows"]
abbrev ZaL:List Str:=["text"]
theorem scPm:ZB nPm ZaL (Zl s_program_from):=⟨rfl,rfl,rfl,by decide +kernel,rfl,by decide +kernel,by decide +kernel⟩
theorem Zfg {f:Addr}{fd:Qq}(F:Fun K "program_from" "program_from" s_program_from f fd)(T:Ya mg)(DHs:Def P w K mg base 7 "heads_from" Zbx Zjv)(DPo:Def P w K mg base 7 "program_of" ZgC (Zkg K)):FnOk P w K mg base Yc 8 f fd ZaL (ZjU K):=by
 refine F.ok scPm (fun vs H Q E h=>?_) (fun cdv A outer s H vs Q E hr h=>?_)
 ·obtain ⟨ps,rfl,_⟩:=h;rfl
 obtain ⟨ps,rfl,ho,hh,hm,q⟩:=h
 refine' ⟨?t,?h,?r⟩
 case h =>
  conv=>arg 2;whnf
  with_reducible refine' (Xq ?h1 (Zh ?h2))
  case h1=>exact Zr (i:=1) scPm.nd rfl (Qy rfl) (Yv (Zef (pv 0) (fun _=>rfl)) (ZU Qo QX Gu Wn (pv 0) (Zb Zk Za)) (ZH Za))
  case h2=>exact Zo (Zu DPo hr (Zb (Zu DHs hr (Zb (pv 1) (Zb Zc Za))) Za))
 obtain ⟨_,_,pok⟩:=ZfR ps
 have hall:=Uw ps 0 ho
 have hlen:(YB 0 ps).length<=1000:=by rw [ZbB];exact hm
 have hbd:=Zbz ho hh hm
 have htl:(Vp ps).length<=16777216:=by
  unfold Vp
  rw [tj]
  exact Qw (WY _ _) hbd
 refine ⟨fun σ H'=>∃ l,σ=[some (.str (Vp ps)),some (.ref l)]/\Same H H'/\H' l=some (.lst (((YB 0 ps).map ZY).map V.str)),?_,?_⟩
 ·cases ps with
  | nil =>
   exact ⟨_,rfl,_,⟨(by decide +kernel),rfl⟩,VA (by decide +kernel) ⟨(by show 0<=Qi;decide),fun l hl=>⟨l,rfl,Zg hl _,Ze⟩⟩⟩
  | cons p ps =>
   have hpos:=ZmO ho
   refine ⟨_,rfl,_,⟨Qw htl (by decide),rfl⟩,ifT (by simpa using hpos) ⟨_,rfl,rfl,_,_,rfl,rfl,(by decide +kernel),?_,fun l hl=>?_⟩⟩
   ·have h7:=VL (n:=700) (ZN (p::ps)) (fun y hy=>by have:=WU ho y hy;omega)
    have h8:=WY (Qa "\n") (ZN (p::ps))
    rw [Xg] at h7 h8
    rw [show (Qa "\n").length=1 by decide +kernel] at h8
    unfold Vp
    rw [tj]
    omega
   ·rw [ZdI ho,Ux]
    exact ⟨l,rfl,Zg hl _,Ze⟩
 ·rintro σ H1 ⟨l,rfl,s1,el⟩
  refine ⟨_,rfl,l,0,YB 0 ps,rfl,by omega,el,fun x hx=>?_,pok,hlen,fun l2 vs H2 s2 el2 hd=>⟨l2,vs,ps,rfl,el2,hd,ho,hm,fun t H3 s3 dt=>q t H3 ((s1.trans s2).trans s3) dt⟩⟩
  have:=hall x hx
  exact ⟨this.1,by omega⟩
end
end K69
namespace L2
open PySem PySem.W
def Zcc (v:Option (Option Qe))(x:String):Bool:=match v with
 | some (some (.builtin b))=>b == x
 | _=>false
def ZdR (v:Option (Option Qe)):Bool:=match v with
 | some none=>true
 | _=>false
def Zhg (K:Qb)(CRo C fI:Addr)(cs n1 n2:List Addr)(j:Nat):Bool :=
 ((Zez K C&&ZdR (Gx K (.ref C) "what"))&&(Zcc (Gx K (.ref C) "__getattribute__") "BaseException.__getattribute__"&&(ZdR (Gx K (.ref C) "__getattr__")&&Zcc (Gx K (.ref C) "__class__") "object.__class__"))) &&
 (((match Gx K (.ref C) "__init__" with | some (some (.ref a))=>a == fI | _=>false)&&Zcc (Gx K (.ref C) "__setattr__") "object.__setattr__")&&keepIn K (.ref C)) &&
 ((exmOne K (.ref C) (.ref CRo) == some true&&kitOne K (.ref C) (.type "ValueError") == some true) &&
  (((Gs cs.length).all fun i=>kitOne K (.ref C) (.ref (cs.getD i 0)) == some (decide (i=j)))&&(kitAny K (.ref C) (n1.map Qz) == some false&&kitAny K (.ref C) (n2.map Qz) == some false)))
structure RefK (K:Qb)(CRo:Addr)(cs n1 n2:List Addr)(C:Addr)(j:Nat):Prop where
 g:XG K C
 cat:exmOne K (.ref C) (.ref CRo)=some true
 ve:kitOne K (.ref C) (.type "ValueError")=some true
 is:∀ i,i < cs.length->kitOne K (.ref C) (.ref (cs.getD i 0))=some (decide (i=j))
 no1:kitAny K (.ref C) (n1.map Qz)=some false
 no2:kitAny K (.ref C) (n2.map Qz)=some false
theorem ZeO {v:Option (Option Qe)}{x:String}(h:Zcc v x=true):v=some (some (.builtin x)):=by
 unfold Zcc at h
 split at h
 ·rw [beq_iff_eq.mp h]
 ·cases h
theorem Zeb {v:Option (Option Qe)}(h:ZdR v=true):v=some none:=by
 unfold ZdR at h
 split at h
 ·rfl
 ·cases h
theorem ZhK {K:Qb}{CRo C fI:Addr}{cs n1 n2:List Addr}{j:Nat}(h:Zhg K CRo C fI cs n1 n2 j=true):RefK K CRo cs n1 n2 C j/\(isFn K (.ref fI)=true->XF K C fI):=by
 unfold Zhg at h
 simp only [QL,beq_iff_eq,all_eq_true,mem_range] at h
 obtain ⟨⟨⟨⟨a1,a2⟩,a3,a4,a5⟩,⟨b1,b2⟩,b3⟩,⟨c1,c2⟩,c3,c4,c5⟩:=h
 have g:XG K C:=⟨a1,Zeb a2,ZeO a3,Zeb a4,ZeO a5⟩
 refine ⟨⟨g,c1,c2,c3,c4,c5⟩,fun hf=>?_⟩
 have i1:Gx K (.ref C) "__init__"=some (some (.ref fI)):=by
  split at b1
  ·rename_i e;rw [e,beq_iff_eq.mp b1]
  ·cases b1
 exact ⟨a1,i1,ZeO b2,Zeb a2,hf,b3⟩
end L2
namespace K69
open PySem L2
def Vn:Nat->List (Nat×Pg)->Nat
 | m,[]=>m
 | _,(l,p)::r=>Vn (if p.isB=true then l+1 else l) r
def ZbN (m:Nat)(r:Str):Prop:=∀(l:Nat)(p:Pg),p.ok->p.inner=[]->l<=m->r≠XD l p.srow
theorem ZcF:∀(hs:List (Nat×Pg))(m:Nat)(x:Nat×Pg),Vn m (hs++[x])=if x.2.isB=true then x.1+1 else x.1
 | [],_,(_,_)=>rfl
 | (_,_)::r,_,x=>ZcF r _ x
theorem ZeW:∀{hs:List (Nat×Pg)}{m n:Nat},m<=n->(∀ x∈hs,x.1<=n)->Vn m hs<=n+1
 | [],m,n,h,_=>by show m<=n+1;omega
 | (l,p)::r,m,n,h,ha=>by
  show Vn (if p.isB=true then l+1 else l) r<=n+1
  have hl:l<=n:=ha _ (mem_cons_self ..)
  cases r with
  | nil=>show (if p.isB=true then l+1 else l)<=n+1;split<;>omega
  | cons y r=>exact ZeW (m:=0) (Qp _) fun x hx=>ha x (mem_cons_of_mem _ hx)
theorem VR (x:Str):(QW x (Qa " ")).length<=x.length:=by
 rw [Zq,Zq,Ww];exact (TY _).length_le
section
variable {P:Qm}{w:QC}{K:Qb}{mg:Str->Option Qe}{base:Heap}{tk:Tok}{CB:Addr}
def ZgH (CB:Addr):Sp:=fun vs H _ E=>∃ (a:Addr) (k:Nat) (hs:List (Nat×Pg)) (bad:Str) (rest:List Str),vs=[.ref a,.int (k:Int)]/\k<=1000/\H a=some (.lst ((hs.map ZY++bad::rest).map V.str))/\(∀ x∈hs,x.2.ok/\x.1<=200)/\Xr 0 hs/\ZbN (Vn 0 hs) bad/\bad.length<=80000/\hs.length<=1000/\∀ dx H',Same H H'->H dx=none->H' dx=some (.xd [("what",.int ((hs.length+k:Nat):Int))])->E (.ref CB) (some dx) H'
theorem Zgn {f:Addr}{fd:Qq}(F:Fun K "heads_from" "heads_from" s_heads_from f fd)(T:Ya mg)(hFI:mg "FURTHER_IN"=some (.str "  " tk))(DHf:Def P w K mg base 6 "head_from" Zha ZeB)(DHw:Def P w K mg base 6 "has_within" ZcE ZaM)(DE:ZkS P w K mg base 5 CB "BadRow"):FnOk P w K mg base (CX1 P w base) 7 f fd Zbx (ZgH CB):=by
 refine F.okX scHs (fun vs H Q E h=>?_) (fun cdv A outer s H vs Q E hr h W=>?_)
 ·obtain ⟨a,_,_,_,_,rfl,_⟩:=h;rfl
 obtain ⟨a,k,hs,bad,rest,rfl,hk,ea,hok,hH,hbad,hbl,hl,q⟩:=h
 refine' ⟨?t,?h,?r⟩
 case h =>
  conv=>arg 2;whnf
  with_reducible refine' (Zf ?h1 (Zf ?h2 (Zf (XX ?h3 ?h4 ?h5 ?h6 (Zf ?h7 (Zf ?h8 (Zf ?h9 (Zf (ZT ?h10 (Zh ?h11) ZI) (Zf ?h12 (Zh ?h13)))))) ?h14) (Zh ?h15))))
  case h1=>exact Zr (i:=2) scHs.nd rfl (Qy rfl) (ZH Za)
  case h2=>exact Zr (i:=3) scHs.nd rfl (Qy rfl) Zc
  case h3=>exact PassesOwn.leaving
  case h4=>exact rfl
  case h5=>exact Zei rfl T.enumerate (pv 0) (pv 1)
  case h6=>exact Wb rfl (Ye (ZM (i:=4) scHs.nd rfl (Qy rfl)) (Ye (ZM (i:=5) scHs.nd rfl (Qy rfl)) Xw))
  case h7=>exact Zr (i:=6) scHs.nd rfl (Qy rfl) (ZU Qo JR JS Vq (pv 5) (Zb Zk Za))
  case h8=>exact Zr (i:=7) scHs.nd rfl (Qy rfl) (Zj ZbG (Zj Xh (Zm ZQ rfl T.len Qu (Zb (pv 5) Za)) (Zm ZQ rfl T.len Qu (Zb (pv 6) Za))) (Zm ZQ rfl T.len Qu (Zb (YS rfl hFI (v:=.str "  ") ⟨_,rfl⟩) Za)))
  case h9=>exact Zr (i:=8) scHs.nd rfl (Qy rfl) (Zu DHf hr (Zb (pv 6) Za))
  case h10=>exact PW.pt (Xt (Wu (Ui (pv 8))) (Xt (ZA UG (pv 7) (pv 3) (ZC _)) (Wg (ZA WK (pv 5) (Zj ZJ (Zj WA (YS rfl hFI (v:=.str "  ") ⟨_,rfl⟩) (pv 7)) (pv 6)) (ZC _)))))
  case h11=>exact ZjE W DE hr rfl (Zb (pv 4) Za)
  case h12=>exact YW (ZU QG QR QS YG (pv 2) (Zb (ZV (Zb (pv 7) (Zb (pv 8) Za))) Za))
  case h13=>exact Zr (i:=3) scHs.nd rfl (Qy rfl) (Yv (Yo (Zu DHw hr (Zb (ZG YI (pv 8) Zc (fun _ _=>rfl)) Za))) (Zj ZO (pv 7) Zc) (pv 7))
  case h14=>exact fun _=>rfl
  case h15=>exact Zo (pv 2)
 refine ⟨(by show 0<=Qi;decide),fun l hl0=>?_⟩
 refine ⟨_,rfl,a,rfl,_,rfl,k,_,rfl,by omega,Zg hl0 _ _ _ ea,?_⟩
 refine ZdC (k:=k) (xs:=(hs.map ZY++bad::rest).map V.str) (fun i σ H'=>∃ (m:Nat) (vs:List V) (x4 x5 x6 x7 x8:Option V),σ=[some (.ref a),some (.int (k:Int)),some (.ref l),some (.int (m:Int)),x4,x5,x6,x7,x8]/\Same H H'/\H' l=some (.lst vs)/\HdL H' vs (hs.take i)/\Xr m (hs.drop i)/\i<=hs.length/\(i<=hs.length->m=Vn 0 (hs.take i))) ⟨0,[],_,_,_,_,_,rfl,Zg hl0 _,Ze,.nil,hH,Qp _,fun _=>by rw [take_zero];rfl⟩ (fun i σ H' _ ⟨_,_,_,_,_,_,_,_,s',_⟩=>SqL.of (s' _ _ ea)) ?_ ?_
 ·rintro i x t σ H' hx ht ⟨m,vs,x4,x5,x6,x7,x8,rfl,s',el,hd,ho,hil0,hmm⟩
  rw [getElem?_map] at hx
  obtain ⟨r,er,rfl⟩:=QD.mp hx
  by_cases hlt:i < hs.length
  ·
   rw [getElem?_append_left (by rw [length_map];exact hlt),getElem?_map] at er
   obtain ⟨y,ey,rfl⟩:=QD.mp er
   obtain ⟨hp,hlv⟩:=hok y (mem_of_getElem? ey)
   have hsl:=Xs hp
   obtain ⟨lv,p⟩:=y
   have hrl:(ZY (lv,p)).length=2 * lv+p.srow.length:=Vd _ _
   have hlv:lv<=200:=hlv
   have hp:p.ok:=hp
   have hsl:p.srow.length<=500:=hsl
   obtain ⟨ho1,ho2⟩:=Zaf ey ho
   have ho1:lv<=m:=ho1
   have hil:i < hs.length:=(Ql.mp ey).1
   have s1:=Zg ht (.tup [.int ((i+k:Nat):Int),.str (ZY (lv,p))])
   refine ⟨t,_,rfl,SqT.of Ze,rfl,_,_,rfl,_,_,rfl,rfl,?_⟩
   generalize upd H' t (.tup [.int ((i+k:Nat):Int),.str (ZY (lv,p))])=H1 at s1 ⊢
   refine ⟨_,rfl,rfl,_,_,rfl,rfl,by rw [hrl];omega,?_⟩
   rw [show QW (ZY (lv,p)) (Qa " ")=p.srow from VS lv (Zag hp)]
   refine ⟨_,rfl,_,rfl,Zp (show _<=1000 by rw [hrl];omega),_,rfl,_,rfl,Zp (show _<=1000 by omega),_,_,rfl,rfl,_,rfl,(by decide +kernel),_,_,rfl,rfl,(by rw [show (Qa "  ").length=2 by decide +kernel];exact ⟨by decide,by decide⟩),?_⟩
   dsimp only
   rw [show (((ZY (lv,p)).length:Int) - (p.srow.length:Int)) / ((Qa "  ").length:Int)=(lv:Int) by rw [show (Qa "  ").length=2 by decide +kernel,hrl];omega]
   refine ⟨_,rfl,p.srow,rfl,by omega,fun z=>absurd z (by rw [Uv hp];simp),fun hvs z h H2 s2 hh0 eh=>?_⟩
   rw [Uv hp] at z
   cases z
   refine ⟨_,rfl,_,rfl,Zw ?_⟩
   refine ⟨_,rfl,_,rfl,_,_,rfl,rfl,_,rfl,?_⟩
   rw [decide_eq_false (show ¬ ((m:Int) < (lv:Int)) by omega)]
   refine Zw ⟨_,rfl,_,rfl,_,_,rfl,rfl,ZeN (by omega),_,rfl,_,_,rfl,rfl,?_,rfl,_,rfl,?_⟩
   ·have e:=congrArg Oo (Ve lv p.srow)
    rw [Yy,Vd] at e
    exact Zp (show _<=1000 by omega)
   rw [Ve,decide_eq_true (show V.str (ZY (lv,p))=V.str (XD lv p.srow) from rfl)]
   refine Zw ?_
   refine ⟨_,rfl,.inl ⟨rfl,_,SqL.of (s2 _ _ (s1 _ _ el))⟩,_,rfl,_,rfl,(by show 2<=Qi;decide),fun pt hpt=>?_⟩
   dsimp only [Xf]
   have s3:=Zg hpt (.tup [.int (lv:Int),.ref h])
   have ept:upd H2 pt (.tup [.int (lv:Int),.ref h]) pt=_:=Ze
   have el2:=s3 _ _ (s2 _ _ (s1 _ _ el))
   have eh2:=s3 _ _ eh
   have hd2:=hd.tf ((s1.trans s2).trans s3).tf
   have s03:Same H _:=((s'.trans s1).trans s2).trans s3
   generalize upd H2 pt (.tup [.int (lv:Int),.ref h])=H3 at s03 ept el2 eh2 hd2 ⊢
   have hvl:=hd2.len
   refine ⟨l,_,_,rfl,rfl,el2,Wq (show _<=1000 by rw [hvl,length_take];omega),?_⟩
   have t4:TF H3 (upd H3 l (.lst (vs++[.ref pt]))):=Zaz el2
   have s4:Same H (upd H3 l (.lst (vs++[.ref pt]))):=XC s03 hl0
   have el4:upd H3 l (.lst (vs++[.ref pt])) l=_:=Ze
   generalize upd H3 l (.lst (vs++[.ref pt]))=H4 at t4 s4 el4 ⊢
   have hd4:HdL H4 (vs++[.ref pt]) (hs.take (i+1)):=by
    rw [take_add_one,ey]
    exact (hd2.tf t4).app ⟨pt,h,rfl,t4.tup _ _ ept,t4.tup _ _ eh2⟩
   refine ⟨_,rfl,h,_,_,_,rfl,rfl,SqT.of (t4.tup _ _ eh2),ZF (j:=0) rfl,p.word,p.isB,rfl,ZaR hp,_,rfl,?_⟩
   have hmst:Vn 0 (hs.take (i+1))=if p.isB=true then lv+1 else lv:=by rw [take_add_one,ey];exact ZcF _ _ _
   cases hb:p.isB with
   | true =>
    rw [if_pos hb] at ho2
    exact Zx ⟨_,rfl,_,_,rfl,rfl,lv+1,_,_,_,_,_,_,rfl,s4,el4,hd4,ho2,by omega,fun _=>by rw [hmst,if_pos hb]⟩
   | false =>
    rw [if_neg (by rw [hb];decide)] at ho2
    exact Zw ⟨_,rfl,lv,_,_,_,_,_,_,rfl,s4,el4,hd4,ho2,by omega,fun _=>by rw [hmst,if_neg (by rw [hb];decide)]⟩
  ·have hi:i=hs.length:=by omega
   subst hi
   have hm0:=hmm (Qh _)
   rw [take_length] at hm0
   have hmle:m<=201:=by rw [hm0];exact ZeW (Qp _) fun x hx=>(hok x hx).2
   rw [getElem?_append_right (by rw [length_map];exact Qh _),length_map,TL] at er
   cases er
   have s1:=Zg ht (.tup [.int ((hs.length+k:Nat):Int),.str bad])
   refine ⟨t,_,rfl,SqT.of Ze,rfl,_,_,rfl,_,_,rfl,rfl,?_⟩
   generalize upd H' t (.tup [.int ((hs.length+k:Nat):Int),.str bad])=H1 at s1 ⊢
   have hll:=VR bad
   refine ⟨_,rfl,rfl,_,_,rfl,rfl,by omega,?_⟩
   generalize hwd:QW bad (Qa " ")=wd at hll ⊢
   refine ⟨_,rfl,_,rfl,Zp (show _<=100000 by omega),_,rfl,_,rfl,Zp (show _<=100000 by omega),_,_,rfl,rfl,_,rfl,(by decide +kernel),_,_,rfl,rfl,(by rw [show (Qa "  ").length=2 by decide +kernel];exact ⟨by decide,by decide⟩),?_⟩
   dsimp only
   obtain ⟨lv,elv⟩:∃ lv:Nat,((bad.length:Int) - (wd.length:Int)) / ((Qa "  ").length:Int)=(lv:Int):=⟨(bad.length - wd.length) / 2,by rw [show (Qa "  ").length=2 by decide +kernel];omega⟩
   rw [elv]
   have stop:∀ H2,Same H1 H2->∀ d,H2 d=none->E (.ref CB) (some d) (upd H2 d (.xd [("what",.int ((hs.length+k:Nat):Int))])):=fun H2 s2 d hd=>q d _ (((s'.trans s1).trans s2).trans (Zg hd _)) (XQ ((s'.trans s1).trans s2) hd) Ze
   refine ⟨_,rfl,wd,rfl,by omega,fun z H2 s2=>?_,fun hvs z h H2 s2 hh0 eh=>?_⟩
   ·exact ⟨_,rfl,_,rfl,Zx (Zx ⟨_,rfl,_,rfl,stop H2 s2⟩)⟩
   obtain ⟨p,hp,hin,hw,rfl⟩:=ZaN z
   refine ⟨_,rfl,_,rfl,Zw ?_⟩
   refine ⟨_,rfl,_,rfl,_,_,rfl,rfl,_,rfl,?_⟩
   by_cases c1:m < lv
   ·rw [decide_eq_true (show (m:Int) < (lv:Int) by omega)]
    exact Zx (Zx ⟨_,rfl,_,rfl,stop H2 s2⟩)
   rw [decide_eq_false (show ¬ ((m:Int) < (lv:Int)) by omega)]
   have hsl:=Xs hp
   refine Zw ⟨_,rfl,_,rfl,_,_,rfl,rfl,ZeN (by omega),_,rfl,_,_,rfl,rfl,?_,rfl,_,rfl,?_⟩
   ·have e:=congrArg Oo (Ve lv wd)
    rw [Yy,Vd] at e
    exact Zp (show _<=100000 by omega)
   rw [Ve,decide_eq_false (show ¬ V.str bad=V.str (XD lv wd) from fun z=>by injection z with z;exact hbad lv p hp hin (by omega) (by rw [<- hw];exact z))]
   exact Zx ⟨_,rfl,_,rfl,stop H2 s2⟩
 ·rintro σ H' ⟨m,vs,x4,x5,x6,x7,x8,rfl,s',el,hd,ho,hil,hmm⟩
  rw [length_map,length_append,length_cons,length_map] at hil;omega
def ZgS (CB:Addr):Sp:=fun vs H _ E=>∃ (x:Str) (hs:List (Nat×Pg)) (bad:Str) (rest:List Str),vs=[.str x]/\x.length<=900000/\x.length≠0/\QF x (Qa "\n") = hs.map ZY ++ bad :: rest /\ (∀ x ∈ hs, x.2.ok /\ x.1 <= 200) /\ Xr 0 hs /\ ZbN (Vn 0 hs) bad /\ bad.length <= 80000 /\ hs.length <= 1000 /\ ∀ dx H', Same H H' -> H dx = none -> H' dx = some (.xd [("what",.int ((hs.length:Nat):Int))])->E (.ref CB) (some dx) H'
theorem Zeg {f:Addr}{fd:Qq}(F:Fun K "program_from" "program_from" s_program_from f fd)(T:Ya mg)(DHs:Zkr P w K mg base 7 "heads_from" Zbx (ZgH CB))(DPo:Def P w K mg base 7 "program_of" ZgC (Zkg K)):FnOk P w K mg base (CX1 P w base) 8 f fd ZaL (ZgS CB):=by
 refine F.okX scPm (fun vs H Q E h=>?_) (fun cdv A outer s H vs Q E hr h W=>?_)
 ·obtain ⟨x,_,_,_,rfl,_⟩:=h;rfl
 obtain ⟨x,hs,bad,rest,rfl,hx,hx0,hsp,hok,hH,hbad,hbl,hl,q⟩:=h
 refine' ⟨?t,?h,?r⟩
 case h =>
  conv=>arg 2;whnf
  with_reducible refine' (Xq ?h1 (Zh ?h2))
  case h1=>exact Zr (i:=1) scPm.nd rfl (Qy rfl) (Yv (Zef (pv 0) (fun _=>rfl)) (ZU Qo QX Gu Wn (pv 0) (Zb Zk Za)) (ZH Za))
  case h2=>exact Zo (Zu DPo hr (Zb (Zpn W DHs hr (Zb (pv 1) (Zb Zc Za))) Za))
 refine ⟨fun σ H'=>∃ l,σ=[some (.str x),some (.ref l)]/\Same H H'/\H' l=some (.lst ((hs.map ZY++bad::rest).map V.str)),?_,?_⟩
 ·refine ⟨_,rfl,_,⟨Qw hx (by decide),rfl⟩,ifT (by simpa using hx0) ⟨_,rfl,rfl,_,_,rfl,rfl,(by decide +kernel),by omega,fun l hl=>?_⟩⟩
  rw [hsp]
  exact ⟨l,rfl,Zg hl _,Ze⟩
 ·rintro σ H1 ⟨l,rfl,s1,el⟩
  exact ⟨_,rfl,l,0,hs,bad,rest,rfl,by omega,el,hok,hH,hbad,hbl,hl,fun dx H' s' h1 h2=>q dx H' (s1.trans s') (XQ s1 h1) h2⟩
end
structure TxtE (K:Qb)(mg:Str->Option Qe)(CRo CB:Addr)(n1:List Addr):Prop where
 road:mg "RoadError"=some (.ref CRo)
 bad:mg "BadRow"=some (.ref CB)
 ve:mg "ValueError"=none
 l:n1.length=5
 c1:mg "Known"=some (.ref (n1.getD 0 0))
 c2:mg "Missing"=some (.ref (n1.getD 1 0))
 c3:mg "NoSetting"=some (.ref (n1.getD 2 0))
 c4:mg "NoTask"=some (.ref (n1.getD 3 0))
 c5:mg "NoWorld"=some (.ref (n1.getD 4 0))
 rk:RefK K CRo [CB] n1 [] CB 0
section
variable {P:Qm}{w:QC}{K:Qb}{mg:Str->Option Qe}{base:Heap}{CRo CB:Addr}{n1:List Addr}{kk:Nat}
theorem scXi:ZB ["self","what"] ["self","what"] (Zl c_RoadError___init__):=⟨rfl,rfl,rfl,by decide +kernel,rfl,by decide +kernel,by decide +kernel⟩
theorem ZkC {f:Addr}{fd:Qq}(F:Fun K "__init__" "RoadError.__init__" c_RoadError___init__ f fd):FnOk P w K mg base Yc 1 f fd ["self","what"] (Zlg K):=by
 refine F.ok scXi (fun vs H Q E h=>?_) (fun cdv A outer s H vs Q E hr h=>?_)
 ·obtain ⟨ea,C,fI,v,rfl,_⟩:=h;rfl
 obtain ⟨ea,C,fI,v,rfl,hea,xf,q⟩:=h
 refine' ⟨?t,?h,?r⟩
 case h =>
  conv=>arg 2;whnf
  with_reducible refine' (Zh ?h1)
  case h1=>exact Zma (pv 0) (pv 1) rfl
 exact ⟨_,rfl,_,rfl,ea,C,fI,rfl,hea,xf,fun dx h1 h2=>q dx h1 h2⟩
def spRf (P:Qm)(w:QC)(K:Qb)(mg:Str->Option Qe)(base:Heap)(kk:Nat)(CB:Addr):Sp:=fun vs H Q _=>∃(f:Addr)(fd:Qq)(ps:List Str)(sp:Sp)(x:Str),vs=[.ref f,.str x]/\FnOk P w K mg base (CX1 P w base) kk f fd ps sp/\Binds K fd ps []/\Gk K (.ref f)=true /\
 ∀ (Qc:VK) (Ec:XK),(∀ v H',(∀ H2,Same H' H2->Q (.str "none") H2)->Qc v H')->(∀ dx n H',H' dx=some (.xd [("what",.int n)])->(∀ H2,Same H' H2->Q (.int n) H2)->Ec (.ref CB) (some dx) H')->sp [.str x] H Qc Ec
abbrev nRf:List Str:=["_law_told","_law_text","_law_caught","error","_law_others"]
abbrev ZjF:List Str:=["_law_told","_law_text"]
theorem scRf:ZB nRf ZjF (Zl s_l_refused):=⟨rfl,rfl,rfl,by decide +kernel,rfl,by decide +kernel,by decide +kernel⟩
theorem Zgm {f:Addr}{fd:Qq}(F:Fun K "_law_refused" "_law_refused" s_l_refused f fd)(T:Ya mg)(TE:TxtE K mg CRo CB n1):FnOk P w K mg base Yc (kk+1) f fd ZjF (spRf P w K mg base kk CB):=by
 refine F.ok scRf (fun vs H Q E h=>?_) (fun cdv A outer s H vs Q E hr h=>?_)
 ·obtain ⟨f,fd,ps,sp,x,rfl,_⟩:=h;rfl
 obtain ⟨f,fd,ps,sp,x,rfl,Fx,hb,hkp,h⟩:=h
 refine' ⟨?t,?h,?r⟩
 case h =>
  conv=>arg 2;whnf
  with_reducible refine' (Zf ?h1 (Zf (Zkt (i:=3) ?h2 ?h3 ?h4 ?h5 ?h6 ?h7 ?h8 ?h9 ?h10 (fun pn Z EE W=>(Zh ?h11)) (fun ea Z=>(Zh ?h12))) (Zf (ZT ?h13 (Zh ?h14) ZI) (Zf ?h15 (Zh ?h16)))))
  case h1=>exact Zr (i:=2) scRf.nd rfl (Qy rfl) YQ
  case h2=>exact rfl
  case h3=>exact rfl
  case h4=>exact rfl
  case h5=>exact scRf.nd
  case h6=>exact rfl
  case h7=>exact rfl
  case h8=>exact rfl
  case h9=>exact TE.road
  case h10=>exact (by decide)
  case h11=>exact YW (Znu (i:=0) (P:=P) (w:=w) (K:=K) (mg:=mg) (base:=base) rfl rfl rfl rfl rfl W hr rfl (.inl rfl) (Zb (pv 1) Za))
  case h12=>exact Zr (i:=2) scRf.nd rfl (Qy rfl) (pv 3)
  case h13=>exact Wu (Ui (pv 2))
  case h14=>exact Zo Zk
  case h15=>exact Zr (i:=4) scRf.nd rfl (Qy rfl) (Zpd (Zm Zij rfl T.isinstance (by decide +kernel) (Zb (pv 2) (Zb (ZV (Wa (YS (v:=.ref _) rfl TE.c1 rfl) (Wa (YS (v:=.ref _) rfl TE.c2 rfl) (Wa (YS (v:=.ref _) rfl TE.c3 rfl) (Wa (YS (v:=.ref _) rfl TE.c4 rfl) (Wa (YS (v:=.ref _) rfl TE.c5 rfl) Za rfl) rfl) rfl) rfl) rfl)) Za))) (WH (ZbQ (Zm Zdr rfl T.isinstance (by decide +kernel) (Zb (pv 2) (Zb (YH rfl TE.ve (by decide +kernel) (v:=.ty "ValueError") rfl) Za))))))
  case h16=>exact Zo (Yv (PW.pt (Vg (Yo (Zm Zdr rfl T.isinstance (by decide +kernel) (Zb (pv 2) (Zb (YS (v:=.ref _) rfl TE.bad rfl) Za)))) (UC (XI (Yo (pv 4)))))) (Zmv (pv 2) rfl) Zk)
 refine ⟨f,fd,ps,sp,rfl,Fx,hb,hkp,_,rfl,h _ _ (fun v H1 q1=>?_) (fun d1 n H1 ed1 q1=>⟨CB,d1,rfl,rfl,TE.rk.cat,fun ea hea=>?_⟩)⟩
 ·exact ⟨_,rfl,_,rfl,Zx (q1 H1 (Same.refl H1))⟩
 ·obtain ⟨a1,a2,a3,a4,a5,rfl⟩:∃ a1 a2 a3 a4 a5,n1=[a1,a2,a3,a4,a5]:=by
   have:=TE.l
   match n1,this with
   | [a1,a2,a3,a4,a5],_=>exact ⟨a1,a2,a3,a4,a5,rfl⟩
  have eea:upd H1 ea (XO ea CB d1) ea=some (XO ea CB d1):=Ze
  have s2:=Zg hea (XO ea CB d1)
  have ed2:=s2 _ _ ed1
  generalize upd H1 ea (XO ea CB d1)=H2 at eea s2 ed2 ⊢
  refine ⟨_,rfl,_,rfl,_,rfl,Zw ?_⟩
  refine ⟨_,rfl,(by show 5<=Qi;decide),fun tp htp=>?_⟩
  have s3:=Zg htp (.tup [.ref a1,.ref a2,.ref a3,.ref a4,.ref a5])
  have etp:upd H2 tp (.tup [.ref a1,.ref a2,.ref a3,.ref a4,.ref a5]) tp=_:=Ze
  have eea3:=s3 _ _ eea
  have ed3:=s3 _ _ ed2
  have ty:TyX K (upd H2 tp (.tup [.ref a1,.ref a2,.ref a3,.ref a4,.ref a5])) (.ref ea) (.ref CB):=.inr ⟨ea,CB,d1,rfl,rfl,eea3,TE.rk.g⟩
  refine ⟨ea,CB,d1,tp,[a1,a2,a3,a4,a5],false,rfl,eea3,TE.rk.g,etp,TE.rk.no1,false,rfl,Zw ?_⟩
  refine ⟨_,rfl,_,_,_,true,rfl,ty,.inr ⟨_,rfl,TE.rk.ve⟩,_,rfl,?_⟩
  refine ⟨_,rfl,_,_,_,true,rfl,ty,.inl ⟨CB,rfl,TE.rk.is 0 (by simp)⟩,_,rfl,Zx ⟨_,rfl,_,rfl,Zx ?_⟩⟩
  exact ⟨_,rfl,ea,CB,d1,_,_,rfl,eea3,ed3,TE.rk.g,rfl,q1 _ (s2.trans s3)⟩
end
end K69
namespace L2
open PySem PySem.Spec PyProof.Rows
section
variable {prog:Qm}{w:QC}{A:QK}{E:Qe->Qg->Prop}{s:Qg}
end
section
variable {X:Cx}{pins:List (Addr×Obj)}{σ:St}{A:QK}
end
section
variable {X:Cx}
end
end L2
namespace K69
open PySem L2
mutual
def wd:Ji->Bool
 | .tuple ds=>decide (ds.length<=20000)&&wds ds
 | .list ds=>decide (ds.length<=20000)&&wds ds
 | .none=>true
 | .bool _=>true
 | .int _=>true
 | .str _=>true
 | .dict _=>true
def wds:List Ji->Bool
 | []=>true
 | d::ds=>wd d&&wds ds
end
mutual
theorem toA {K:Qb}{H:Hp}:∀{v:V}{d:Ji},DatT K H v d->wd d=true->DatA K H v d
 | _,_,.non,_=>.non
 | _,_,.int i,_=>.int i
 | _,_,.str x,_=>.str x
 | _,_,.tup e q,w=>by
  rw [wd,QL,decide_eq_true_eq] at w
  exact .tup e (by rw [q.len];exact w.1) (toAs q w.2)
theorem toAs {K:Qb}{H:Hp}:∀{vs:List V}{ds:List Ji},DatTs K H vs ds->wds ds=true->DatAs K H vs ds
 | _,_,.nil,_=>.nil
 | _,_,.cons a b,w=>by
  rw [wds,QL] at w
  exact .cons (toA a w.1) (toAs b w.2)
end
mutual
theorem ZoY:∀{p:Pg},p.ok->p.many<=20000->wd p.dat=true/\nb p.dat=true
 | .set x v s,h,_=>by
  have:wd (VW v)=true/\nb (VW v)=true:=by
   have hv:=h.2.1
   cases v<;>first | exact ⟨rfl,rfl⟩ | exact hv.elim
  refine ⟨?_,?_⟩
  ·show (decide (4<=20000)&&(true&&(true&&(wd (VW v)&&(true&&true)))))=true
   rw [this.1];rfl
  ·show (true&&(true&&(nb (VW v)&&(true&&true))))=true
   rw [this.2];rfl
 | .look x,_,_=>⟨rfl,rfl⟩
 | .slot w s,_,_=>⟨rfl,rfl⟩
 | .pass,_,_=>⟨rfl,rfl⟩
 | .blk w ps,h,hm=>by
  have e:(Pg.blk w ps).many=1+Pg.manys ps:=Pg.many_eq _
  obtain ⟨h1,h2⟩:=Zci h.2 (by omega)
  have h3:=Pg.len_manys ps
  have h4:(Pg.dats ps).length<=20000:=by rw [Pg.dats_map,length_map];omega
  refine ⟨?_,?_⟩
  ·show (decide (2<=20000)&&(true&&((decide ((Pg.dats ps).length<=20000)&&wds (Pg.dats ps))&&true)))=true
   rw [decide_eq_true h4,h1];rfl
  ·show (true&&(nbs (Pg.dats ps)&&true))=true
   rw [h2];rfl
 | .inn s ps,h,hm=>by
  have e:(Pg.inn s ps).many=1+Pg.manys ps:=Pg.many_eq _
  obtain ⟨h1,h2⟩:=Zci h.2 (by omega)
  have h3:=Pg.len_manys ps
  have h4:(Pg.dats ps).length<=20000:=by rw [Pg.dats_map,length_map];omega
  refine ⟨?_,?_⟩
  ·show (decide (3<=20000)&&(true&&(true&&((decide ((Pg.dats ps).length<=20000)&&wds (Pg.dats ps))&&true))))=true
   rw [decide_eq_true h4,h1];rfl
  ·show (true&&(true&&(nbs (Pg.dats ps)&&true)))=true
   rw [h2];rfl
theorem Zci:∀{ps:List Pg},Pg.oks ps->Pg.manys ps<=20000->wds (Pg.dats ps)=true/\nbs (Pg.dats ps)=true
 | [],_,_=>⟨rfl,rfl⟩
 | p :: ps,h,hm=>by
  have e:Pg.manys (p::ps)=p.many+Pg.manys ps:=rfl
  obtain ⟨h1,h2⟩:=ZoY h.1 (by omega)
  obtain ⟨h3,h4⟩:=Zci h.2 (by omega)
  refine ⟨?_,?_⟩
  ·show (wd p.dat&&wds (Pg.dats ps))=true
   rw [h1,h3];rfl
  ·show (nb p.dat&&nbs (Pg.dats ps))=true
   rw [h2,h4];rfl
end
theorem ZiR {K:Qb}{H:Hp}{v:V}{ps:List Pg}(h:DatT K H v (.tuple (Pg.dats ps)))(ho:Pg.oks ps)(hm:Pg.manys ps<=20000):DatA K H v (.tuple (Pg.dats ps))/\nb (.tuple (Pg.dats ps))=true:=by
 obtain ⟨h1,h2⟩:=Zci ho hm
 have h3:=Pg.len_manys ps
 refine ⟨toA h ?_,h2⟩
 show (decide ((Pg.dats ps).length<=20000)&&wds (Pg.dats ps))=true
 rw [decide_eq_true (by rw [Pg.dats_map,length_map];omega),h1];rfl
theorem Zps {K:Qb}{H H':Hp}{a:Addr}{xs:List V}(h:SqL K H a xs)(s:Same H H'):SqL K H' a xs:=by
 rcases h with (h | ⟨o,h⟩) | h
 ·exact .inl (.inl (s _ _ h))
 ·exact .inl (.inr ⟨o,s _ _ h⟩)
 ·exact .inr h
def ZdN (K:Qb):Sp:=fun vs H Q _=>∃(a:Addr)(ns:List Int),vs=[.ref a]/\SqL K H a (ns.map V.int)/\ns.length<=63/\∀ H',Q (.bl true) H'
def ScQ (K:Qb)(ns:List Int):Wr:=fun a h=>SqL K h a (ns.map V.int)
instance {K:Qb} {ns:List Int}:Up (ScQ K ns):=⟨fun h s=>Zps h s⟩
theorem Zcu:∀(rows:List Str)(m:Nat),∃ hs:List (Nat×Pg),(∀ x∈hs,x.2.ok/\x.2.inner=[])/\Xr m hs/\(rows=hs.map ZY\/∃ bad rest,rows=hs.map ZY++bad::rest/\ZbN (Vn m hs) bad)
 | [],m=>⟨[],(fun _ h=>nomatch h),trivial,.inl rfl⟩
 | r :: rs,m=>by
  by_cases h:ZbN m r
  ·exact ⟨[],(fun _ h=>nomatch h),trivial,.inr ⟨r,rs,rfl,h⟩⟩
  ·obtain ⟨l,p,h1,h2,h3,h4⟩:∃ (l:Nat) (p:Pg),p.ok/\p.inner=[]/\l<=m/\r=XD l p.srow:=by
    apply Rv
    intro z
    exact h fun l p a b c d=>z ⟨l,p,a,b,c,d⟩
   obtain ⟨hs,a,b,c⟩:=Zcu rs (if p.isB=true then l+1 else l)
   refine ⟨(l,p)::hs,fun x hx=>?_,⟨h3,b⟩,?_⟩
   ·rcases mem_cons.mp hx with rfl | hx
    ·exact ⟨h1,h2⟩
    ·exact a x hx
   ·rcases c with c | ⟨bad,rest,c,d⟩
    ·exact .inl (by rw [c,h4];rfl)
    ·exact .inr ⟨bad,rest,by rw [c,h4];rfl,d⟩
theorem ZcG:∀{hs:List (Nat×Pg)}{m:Nat},Xr m hs->∀ x∈hs,x.1<=m+hs.length
 | (l,p)::r,m,h,x,hx=>by
  have h1:l<=m:=h.1
  rcases mem_cons.mp hx with rfl | hx
  ·show l<=_;omega
  ·have:=ZcG h.2 x hx
   rw [length_cons]
   split at this<;>omega
def VF:Pg->List Pg->Pg
 | .blk w _,ps=>.blk w ps
 | .inn s _,ps=>.inn s ps
 | .set x v s,_=>.set x v s
 | .look x,_=>.look x
 | .slot w s,_=>.slot w s
 | .pass,_=>.pass
theorem ZjC (p:Pg)(ps:List Pg):(VF p ps).srow=p.srow:=by cases p<;>rfl
theorem Zor {p:Pg}{ps:List Pg}(h:p.ok)(ho:Pg.oks ps):(VF p ps).ok:=by
 cases p with
 | blk w _=>exact ⟨h.1,ho⟩
 | inn s _=>exact ⟨h.1,ho⟩
 | _=>exact h
theorem Zde {p:Pg}{ps:List Pg}:(VF p ps).inner=if p.isB=true then ps else []:=by cases p<;>rfl
theorem Zms (p:Pg)(ps:List Pg):(VF p ps).hgt<=Pg.hgts ps+1:=by
 cases p with
 | blk w _=>exact Qh _
 | inn s _=>exact Qh _
 | set x v s=>exact Qp _
 | look x=>exact Qp _
 | slot w s=>exact Qp _
 | pass=>exact Qp _
theorem Znr {p:Pg}{ps:List Pg}(h:p.isB=false):VF p ps=p:=by cases p<;>first | rfl | cases h
def YD (d:Nat)(x:Nat×Pg):Bool:=decide (d < x.1)
def bt:Nat->Nat->List (Nat×Pg)->List Pg
 | 0,_,_=>[]
 | _+1,_,[]=>[]
 | n+1,d,x::r=>VF x.2 (bt n (d+1) (r.takeWhile (YD d)))::bt n d (r.dropWhile (YD d))
theorem ZdT {α:Type}(f:α->Bool)(l:List α):(l.takeWhile f).length<=l.length:=(Ox f).length_le
theorem ZaC {α:Type}(f:α->Bool)(l:List α):(l.dropWhile f).length<=l.length:=(TY f).length_le
theorem VC:∀(n m d:Nat)(hs:List (Nat×Pg)),hs.length<=n->hs.length<=m->bt n d hs=bt m d hs
 | 0,m,d,hs,h1,h2=>by
  have:hs=[]:=eq_nil_of_length_eq_zero (by omega)
  subst this
  cases m<;>rfl
 | n+1,0,d,hs,h1,h2=>by
  have:hs=[]:=eq_nil_of_length_eq_zero (by omega)
  subst this;rfl
 | n+1,m+1,d,[],h1,h2=>rfl
 | n+1,m+1,d,x::r,h1,h2=>by
  rw [length_cons] at h1 h2
  have a:=ZdT (YD d) r
  have b:=ZaC (YD d) r
  rw [bt,bt,VC n m (d+1) _ (by omega) (by omega),VC n m d _ (by omega) (by omega)]
theorem ZcA:∀{a b:List (Nat×Pg)}{m:Nat},Xr m (a++b)->Xr m a/\Xr (Vn m a) b
 | [],b,m,h=>⟨trivial,h⟩
 | (l,p)::a,b,m,h=>by
  obtain ⟨h1,h2⟩:=ZcA (a:=a) h.2
  exact ⟨⟨h.1,h1⟩,h2⟩
theorem Zfs {α:Type}(f:α->Bool):∀(l:List α){x:α}{r:List α},l.dropWhile f=x::r->f x=false
 | a::l,x,r,h=>by
  rw [dropWhile_cons] at h
  split at h
  ·exact Zfs f l h
  ·rename_i c;cases h;simpa using c
theorem ZcZ {d:Nat}{p:Pg}{r:List (Nat×Pg)}(h:Xr (if p.isB=true then d+1 else d) r):Xr (d+1) (r.takeWhile (YD d))/\Xr d (r.dropWhile (YD d))/\(p.isB=false->r.takeWhile (YD d)=[]):=by
 have hsp:r.takeWhile (YD d)++r.dropWhile (YD d)=r:=TZ
 have h2:Xr d (r.dropWhile (YD d)):=by
  rw [<- hsp] at h
  have:=(ZcA h).2
  cases e:r.dropWhile (YD d) with
  | nil=>trivial
  | cons x r' =>
   rw [e] at this
   have hx:=Zfs _ _ e
   unfold YD at hx
   exact ⟨by have:=of_decide_eq_false hx;omega,this.2⟩
 cases hb:p.isB with
 | true =>
  rw [if_pos hb,<- hsp] at h
  exact ⟨(ZcA h).1,h2,fun z=>nomatch z⟩
 | false =>
  rw [if_neg (by rw [hb];decide)] at h
  have:r.takeWhile (YD d)=[]:=by
   cases r with
   | nil=>rfl
   | cons x r' =>
    have:x.1<=d:=h.1
    rw [PR,if_neg (by unfold YD;simpa using this)]
  rw [this]
  exact ⟨trivial,h2,fun _=>rfl⟩
theorem Zee {α:Type}(f:α->Bool):∀(l:List α),∀ x∈l.takeWhile f,f x=true
 | a :: l,x,h=>by
  rw [PR] at h
  split at h
  ·rename_i c
   rcases mem_cons.mp h with rfl | h
   ·exact c
   ·exact Zee f l x h
  ·cases h
theorem ZcD:∀(n d:Nat)(hs:List (Nat×Pg)),hs.length<=n->Xr d hs->(∀ x∈hs,d<=x.1/\x.2.ok)->(YB d (bt n d hs)).map ZY=hs.map ZY/\Pg.oks (bt n d hs)/\Pg.hgts (bt n d hs)<=hs.length
 | 0,d,hs,h,_,_=>by
  have:hs=[]:=eq_nil_of_length_eq_zero (by omega)
  subst this;exact ⟨rfl,trivial,Qh _⟩
 | n+1,d,[],_,_,_=>⟨rfl,trivial,Qh _⟩
 | n + 1,d,(l,p)::r,h,ho,ha=>by
  rw [length_cons] at h
  have hl:l=d:=by have h1:l<=d:=ho.1;have h2:d<=l:=(ha _ (mem_cons_self ..)).1;omega
  subst hl
  obtain ⟨o1,o2,o3⟩:=ZcZ ho.2
  have hsp:r.takeWhile (YD l)++r.dropWhile (YD l)=r:=TZ
  have hal:∀ x∈r,l<=x.1/\x.2.ok:=fun x hx=>ha x (mem_cons_of_mem _ hx)
  have hpo:p.ok:=(ha _ (mem_cons_self ..)).2
  have a:=ZdT (YD l) r
  have b:=ZaC (YD l) r
  obtain ⟨w1,w2,w3⟩:=ZcD n (l+1) (r.takeWhile (YD l)) (by omega) o1 fun x hx=>by
   have:=Zee _ _ x hx
   unfold YD at this
   exact ⟨of_decide_eq_true this,(hal x (by rw [<- hsp];exact Ju _ hx)).2⟩
  obtain ⟨v1,v2,v3⟩:=ZcD n l (r.dropWhile (YD l)) (by omega) o2 fun x hx=>hal x (by rw [<- hsp];exact mem_append_right _ hx)
  rw [bt]
  refine ⟨?_,⟨Zor hpo w2,v2⟩,?_⟩
  ·show (YE l (VF p _)++YB l _).map ZY=_
   rw [map_append,v1,ZoG,map_cons,map_cons,Zde]
   have e1:ZY (l,VF p (bt n (l+1) (r.takeWhile (YD l))))=ZY (l,p):=by show XD l _=XD l _;rw [ZjC]
   rw [e1,Py]
   congr 1
   conv=>rhs;rw [<- hsp,map_append]
   congr 1
   cases hb:p.isB with
   | true=>rw [if_pos rfl];exact w1
   | false=>rw [if_neg (by decide),o3 hb];rfl
  ·have f1:=Zms p (bt n (l+1) (r.takeWhile (YD l)))
   show max (VF p _).hgt (Pg.hgts _)<=_
   rw [length_cons];omega
theorem Zio {x:Str}{hs:List (Nat×Pg)}(h0:x.length≠0)(hr:QF x (Qa "\n")=hs.map ZY)(hok:∀ y∈hs,y.2.ok/\y.2.inner=[])(hH:Xr 0 hs):x=Vp (bt hs.length 0 hs)/\Pg.oks (bt hs.length 0 hs)/\Pg.hgts (bt hs.length 0 hs)<=hs.length/\Pg.manys (bt hs.length 0 hs)=hs.length:=by
 obtain ⟨a,b,c⟩:=ZcD hs.length 0 hs (Qh _) hH fun y hy=>⟨Qp _,(hok y hy).1⟩
 refine ⟨?_,b,c,?_⟩
 ·unfold Vp
  rw [Ux,a,<- hr,tj]
  exact (GB _ _).symm
 ·rw [<- ZbB]
  have:=congrArg JT a
  rwa [length_map,length_map] at this
theorem Zbc (f:Nat->Bool):∀ l:List Nat,l.drop (l.length - (l.dropWhile f).length)=l.dropWhile f
 | []=>rfl
 | c :: l=>by
  rw [dropWhile_cons]
  split
  ·have h:=ZaC f l
   rw [length_cons,show l.length+1 - (l.dropWhile f).length=(l.length - (l.dropWhile f).length)+1 by omega,drop_succ_cons]
   exact Zbc f l
  ·rw [TL,drop_zero]
theorem Zeo (f:Nat->Bool)(hf:∀ c,f c=true->c=32):∀ l:List Nat,l=QI (l.length - (l.dropWhile f).length) 32++l.dropWhile f
 | []=>rfl
 | c :: l=>by
  rw [dropWhile_cons]
  split
  ·rename_i hc
   have h:=ZaC f l
   have ih:=Zeo f hf l
   rw [length_cons,show l.length+1 - (l.dropWhile f).length=(l.length - (l.dropWhile f).length)+1 by omega,replicate_succ,Py,<- ih,hf c hc]
  ·rw [TL];rfl
theorem Zhk (x:Str):Qs x (some ((x.length - (QW x (Qa " ")).length:Nat):Int)) none=QW x (Qa " "):=by
 apply ZZ
 rw [WO,Zq,Zq,Ww]
 exact Zbc _ _
theorem Zfl (x:Str)(l:Nat)(h:x.length - (QW x (Qa " ")).length=2 * l):x=XD l (QW x (Qa " ")):=by
 apply ZZ
 show _=QI (2 * l) 32++(QW x (Qa " ")).cps.toList
 rw [<- h,Zq,Zq,Ww]
 exact Zeo _ (fun c hc=>by rw [Uq] at hc;simpa using hc) _
theorem ZeP {p : Pg}(h:p.ok):YL (.str p.word) [.str "begin",.str "late",.str "in"]=p.isB:=by
 cases p with
 | set x v s=>exact (show YL (.str "set") [.str "begin",.str "late",.str "in"]=false by decide +kernel)
 | look x=>exact (show YL (.str "look") [.str "begin",.str "late",.str "in"]=false by decide +kernel)
 | slot w s => rcases h.1 with rfl | rfl
               · exact (show YL (.str "back") [.str "begin",.str "late",.str "in"]=false by decide +kernel)
               · exact (show YL (.str "copy") [.str "begin",.str "late",.str "in"]=false by decide +kernel)
 | pass=>exact (show YL (.str "pass") [.str "begin",.str "late",.str "in"]=false by decide +kernel)
 | blk w ps => rcases h.1 with rfl | rfl
               · exact (show YL (.str "begin") [.str "begin",.str "late",.str "in"]=true by decide +kernel)
               · exact (show YL (.str "late") [.str "begin",.str "late",.str "in"]=true by decide +kernel)
 | inn s ps=>exact (show YL (.str "in") [.str "begin",.str "late",.str "in"]=true by decide +kernel)
section
variable {P:Qm}{w:QC}{K:Qb}{mg:Str->Option Qe}{base:Heap}
def spRd:Sp:=fun vs H Q _=>∃(a:Addr)(rows:List Str)(hs:List (Nat×Pg)),vs=[.ref a]/\H a=some (.lst (rows.map V.str))/\rows.length<=1000/\(∀ r∈rows,r.length<=80000)/\(∀ x∈hs,x.2.ok/\x.2.inner=[])/\Xr 0 hs /\
 ((rows=hs.map ZY/\∀ t l us H',Same H H'->H' t=some (.tup [.non,.ref l])->H' l=some (.lst us)->HdL H' us hs->Q (.ref t) H')\/∃ bad rest,rows=hs.map ZY++bad::rest/\ZbN (Vn 0 hs) bad/\∀ t l H',Same H H'->H' t=some (.tup [.int (hs.length:Int),.ref l])->Q (.ref t) H')
abbrev nRd:List Str:=["_law_rows_here","_law_found","_law_most","_law_number","_law_row","_law_blanks","_law_step_here"]
abbrev Zkc:List Str:=["_law_rows_here"]
theorem scRd:ZB nRd Zkc (Zl s_l_read):=⟨rfl,rfl,rfl,by decide +kernel,rfl,by decide +kernel,by decide +kernel⟩
theorem ZlR {f:Addr}{fd:Qq}{k:Nat}(F:Fun K "_law_read" "_law_read" s_l_read f fd)(T:Ya mg)(DSt:Def P w K mg base k "_law_step" ZkH ZeB):FnOk P w K mg base Yc (k+1) f fd Zkc spRd:=by
 refine F.ok scRd (fun vs H Q E h=>?_) (fun cdv A outer s H vs Q E hr h=>?_)
 ·obtain ⟨a,_,_,rfl,_⟩:=h;rfl
 obtain ⟨a,rows,hs,rfl,ea,hrl,hrb,hok,hH,hcase⟩:=h
 refine' ⟨?t,?h,?r⟩
 case h =>
  conv=>arg 2;whnf
  with_reducible refine' (Zf ?h1 (Zf (XX ?h2 ?h3 ?h4 ?h5 (Zf ?h6 (Zf ?h7 (Zf (ZT ?h8 (Zh ?h9) ZI) (Zf ?h10 (Zh ?h11))))) ?h12) (Zh ?h13)))
  case h1=>exact Wt (i:=1) (j:=2) rfl scRd.nd rfl rfl (by decide) rfl rfl (Zb (ZH Za) (Zb Zc Za)) rfl
  case h2=>exact Ga
  case h3=>exact rfl
  case h4=>exact ZkK rfl T.enumerate (pv 0)
  case h5=>exact Wb rfl (Ye (ZM (i:=3) scRd.nd rfl (Qy rfl)) (Ye (ZM (i:=4) scRd.nd rfl (Qy rfl)) Xw))
  case h6=>exact Zr (i:=5) scRd.nd rfl (Qy rfl) (Zj Xh (Zm ZQ rfl T.len Qu (Zb (pv 4) Za)) (Zm ZQ rfl T.len Qu (Zb (ZU Qo JR JS Vq (pv 4) (Zb Zk Za)) Za)))
  case h7=>exact Zr (i:=6) scRd.nd rfl (Qy rfl) (Zu DSt hr (Zb (Zs YA (pv 4) (Zv (pv 5)) Zz) Za))
  case h8=>exact PW.pt (Xt (Wu (Ui (pv 6))) (Xt (ZA Xb (Zj WE (pv 5) Zc) Zc (ZC _)) (Wg (ZA UG (pv 5) (Zj UO Zc (pv 2)) (ZC _)))))
  case h9=>exact Zo (ZV (Zb (pv 3) (Zb (pv 1) Za)))
  case h10=>exact Zr (i:=2) scRd.nd rfl (Qy rfl) (Zj ZO (Zj ZcV (pv 5) Zc) (Yw ZaK rfl T.int (by decide +kernel) (Zb (Xv Wo (ZG YI (pv 6) Zc (fun _ _=>rfl)) (ZV (Zb Zk (Zb Zk (Zb Zk Za)))) rfl) Za)))
  case h11=>exact YW (ZU QG QR QS YG (pv 1) (Zb (ZV (Zb (Zj ZcV (pv 5) Zc) (Zb (pv 6) Za))) Za))
  case h12=>exact fun _=>rfl
  case h13=>exact Zo (ZV (Zb YQ (Zb (pv 1) Za)))
 have hpre:∃ more,rows=hs.map ZY++more/\(more=[]\/∃ bad rest,more=bad::rest/\ZbN (Vn 0 hs) bad/\∀ t l H',Same H H'->H' t=some (.tup [.int (hs.length:Int),.ref l])->Q (.ref t) H'):=by
  rcases hcase with ⟨e,_⟩ | ⟨bad,rest,e,hb,q⟩
  ·exact ⟨[],by rw [e,append_nil],.inl rfl⟩
  ·exact ⟨bad::rest,e,.inr ⟨bad,rest,rfl,hb,q⟩⟩
 obtain ⟨more,hrows,hmore⟩:=hpre
 have hlv:=ZcG hH
 have hhl:hs.length<=rows.length:=by rw [hrows,length_append,length_map];omega
 refine ⟨(by show 0<=Qi;decide),fun l hl0=>⟨_,_,rfl,?_⟩⟩
 refine ⟨_,rfl,a,_,rfl,Zg hl0 _ _ _ ea,?_⟩
 refine Ziq (xs:=rows.map V.str) (fun i σ H'=>∃ (m:Nat) (us:List V) (x3 x4 x5 x6:Option V),σ=[some (.ref a),some (.ref l),some (.int (m:Int)),x3,x4,x5,x6]/\Same H H'/\H' l=some (.lst us)/\HdL H' us (hs.take i)/\Xr m (hs.drop i)/\i<=hs.length/\m=Vn 0 (hs.take i)) ⟨0,[],_,_,_,_,rfl,Zg hl0 _,Ze,.nil,hH,Qp _,by rw [take_zero];rfl⟩ (fun i σ H' _ ⟨_,_,_,_,_,_,_,s',_⟩=>SqL.of (s' _ _ ea)) ?_ ?_
 ·rintro i x t σ H' hx ht ⟨m,us,x3,x4,x5,x6,rfl,s',el,hd,ho,hil,hmm⟩
  rw [getElem?_map] at hx
  obtain ⟨row,er,rfl⟩:=QD.mp hx
  have hrb1:=hrb row (mem_of_getElem? er)
  have hmle:m<=1001:=by rw [hmm];exact ZeW (Qp _) fun x hx=>by have:=hlv x (mem_of_mem_take hx);omega
  have s1:=Zg ht (.tup [.int (i:Int),.str row])
  refine ⟨t,_,rfl,SqT.of Ze,rfl,_,_,rfl,_,_,rfl,rfl,?_⟩
  generalize upd H' t (.tup [.int (i:Int),.str row])=H1 at s1 ⊢
  have hll:=VR row
  have hsl:=Zhk row
  have Ur:=Zfl row
  refine ⟨_,rfl,row,rfl,Zp (show _<=100000 by omega),_,rfl,rfl,_,_,rfl,rfl,by omega,_,rfl,Zp (show _<=100000 by omega),_,_,rfl,rfl,?_⟩
  generalize hwd:QW row (Qa " ")=wd at hll hsl Ur ⊢
  dsimp only
  rw [show (row.length:Int) - (wd.length:Int)=((row.length - wd.length:Nat):Int) by omega]
  generalize hbn:row.length - wd.length=bn at hsl Ur ⊢
  refine ⟨_,rfl,_,rfl,_,rfl,row,rfl,Zp (show _<=100000 by omega),?_⟩
  rw [hsl]
  have stop:∀ H2,Same H1 H2->(∃ bad rest,row=bad/\i=hs.length/\more=bad::rest)->∀ tt,H2 tt=none->Q (.ref tt) (upd H2 tt (.tup [.int (i:Int),.ref l])):=fun H2 s2 ⟨bad,rest,e1,e2,e3⟩ tt htt=>by
   rcases hmore with z | ⟨bad',rest',_,_,q⟩
   ·rw [z] at e3;cases e3
   ·subst e2
    exact q tt l _ (((s'.trans s1).trans s2).trans (Zg htt _)) Ze
  by_cases hlt:i < hs.length
  ·rw [hrows,getElem?_append_left (by rw [length_map];exact hlt),getElem?_map] at er
   obtain ⟨y,ey,rfl⟩:=QD.mp er
   obtain ⟨hp,hin⟩:=hok y (mem_of_getElem? ey)
   have hlv1:=hlv y (mem_of_getElem? ey)
   obtain ⟨ho1,ho2⟩:=Zaf ey ho
   obtain ⟨lv,p⟩:=y
   have hp:p.ok:=hp
   have ho1:lv<=m:=ho1
   have ewd:wd=p.srow:=by rw [<- hwd];exact VS lv (Zag hp)
   subst ewd
   have ebn:bn=2 * lv:=by
    have:(ZY (lv,p)).length=2 * lv+p.srow.length:=Vd _ _
    omega
   have hsl2:=Xs hp
   refine ⟨p.srow,rfl,by omega,fun z=>absurd z (by rw [Uv hp];simp),fun hvs z h H2 s2 hh0 eh=>?_⟩
   rw [Uv hp] at z
   cases z
   refine ⟨_,rfl,_,rfl,Zw ?_⟩
   refine ⟨_,rfl,_,_,rfl,rfl,(show (0:Int) < 2 by decide),rfl,_,rfl,?_⟩
   rw [decide_eq_false (show ¬ V.int ((bn:Int) % 2)=V.int 1 from fun z=>by injection z with z;omega)]
   refine Zw ⟨_,rfl,_,rfl,_,_,rfl,rfl,.inl ⟨by decide,by decide⟩,_,_,rfl,rfl,_,rfl,?_⟩
   rw [decide_eq_false (show ¬ (2 * (m:Int) < (bn:Int)) by omega)]
   refine Zw ?_
   refine ⟨_,rfl,_,_,rfl,rfl,⟨by decide,by decide⟩,_,rfl,h,_,_,_,rfl,rfl,SqT.of eh,ZF (j:=0) rfl,(by decide),fun tp htp=>?_⟩
   have s3:=Zg htp (.tup [.str "begin",.str "late",.str "in"])
   refine ⟨tp,[.str "begin",.str "late",.str "in"],rfl,.inr (SqT.of Ze),rfl,rfl,.inr ⟨_,rfl,?_⟩⟩
   generalize upd H2 tp (.tup [.str "begin",.str "late",.str "in"])=H3 at s3 ⊢
   rw [show (if false=true then !YL (.str p.word) [.str "begin",.str "late",.str "in"] else YL (.str p.word) [.str "begin",.str "late",.str "in"])=p.isB from ZeP hp]
   refine ⟨_,_,rfl,rfl,?_⟩
   have s13:=(s1.trans s2).trans s3
   have el3:=s13 _ _ el
   have eh3:=s3 _ _ eh
   refine ⟨_,rfl,.inl ⟨rfl,_,SqL.of el3⟩,_,rfl,_,_,rfl,rfl,⟨by decide,by decide⟩,_,rfl,(by show 2<=Qi;decide),fun pt hpt=>?_⟩
   dsimp only [Xf]
   rw [show (bn:Int) / 2=(lv:Int) by omega]
   have s4:=Zg hpt (.tup [.int (lv:Int),.ref h])
   have ept:upd H3 pt (.tup [.int (lv:Int),.ref h]) pt=_:=Ze
   have el4:=s4 _ _ el3
   have eh4:=s4 _ _ eh3
   have hd4:=hd.tf (s13.trans s4).tf
   have s04:Same H _:=(s'.trans s13).trans s4
   generalize upd H3 pt (.tup [.int (lv:Int),.ref h])=H4 at s04 ept el4 eh4 hd4 ⊢
   have hvl:=hd4.len
   refine ⟨l,_,_,rfl,rfl,el4,Wq (show _<=1000 by rw [hvl,length_take];omega),?_⟩
   have t5:TF H4 (upd H4 l (.lst (us++[.ref pt]))):=Zaz el4
   refine ⟨if p.isB=true then lv+1 else lv,us++[.ref pt],some (.int (i:Int)),some (.str (ZY (lv,p))),some (.int (bn:Int)),some (.ref h),?_,XC s04 hl0,Ze,?_,ho2,by omega,by rw [take_add_one,ey];exact (ZcF (hs.take i) 0 (lv,p)).symm⟩
   ·rw [show (lv:Int)+(if p.isB=true then 1 else 0)=((if p.isB=true then lv+1 else lv:Nat):Int) by split<;>omega];rfl
   ·rw [take_add_one,ey]
    exact (hd4.tf t5).app ⟨pt,h,rfl,t5.tup _ _ ept,t5.tup _ _ eh4⟩
  ·have hi:i=hs.length:=by omega
   subst hi
   rw [hrows,getElem?_append_right (by rw [length_map];exact Qh _),length_map,TL] at er
   rcases hmore with z | ⟨bad,rest,hm1,hbad,q⟩
   ·rw [z] at er;cases er
   rw [hm1] at er
   cases er
   rw [take_length] at hmm
   have stop:=fun H2 s2=>stop H2 s2 ⟨_,rest,rfl,rfl,hm1⟩
   refine ⟨wd,rfl,by omega,fun z H2 s2=>?_,fun hvs z h H2 s2 hh0 eh=>?_⟩
   ·exact ⟨_,rfl,_,rfl,Zx (Zx ⟨_,rfl,_,rfl,(by show 2<=Qi;decide),stop H2 s2⟩)⟩
   obtain ⟨p,hp,hin,hw,rfl⟩:=ZaN z
   refine ⟨_,rfl,_,rfl,Zw ?_⟩
   refine ⟨_,rfl,_,_,rfl,rfl,(show (0:Int) < 2 by decide),rfl,_,rfl,?_⟩
   by_cases c1:bn % 2=1
   ·rw [decide_eq_true (show V.int ((bn:Int) % 2)=V.int 1 by rw [show (bn:Int) % 2=1 by omega])]
    exact Zx (Zx ⟨_,rfl,_,rfl,(by show 2<=Qi;decide),stop H2 s2⟩)
   rw [decide_eq_false (show ¬ V.int ((bn:Int) % 2)=V.int 1 from fun z=>by injection z with z;omega)]
   refine Zw ⟨_,rfl,_,rfl,_,_,rfl,rfl,.inl ⟨by decide,by decide⟩,_,_,rfl,rfl,_,rfl,?_⟩
   rw [decide_eq_true (show 2 * (m:Int) < (bn:Int) from ?_)]
   ·exact Zx ⟨_,rfl,_,rfl,(by show 2<=Qi;decide),stop H2 s2⟩
   ·apply Rv
    intro c2
    exact hbad (bn / 2) p hp hin (by rw [<- hmm];omega) (by rw [<- hw];exact Ur (bn / 2) (by omega))
 ·rintro σ H' ⟨m,us,x3,x4,x5,x6,rfl,s',el,hd,ho,hil,hmm⟩
  rw [length_map] at hil hd
  rcases hcase with ⟨e,q⟩ | ⟨bad,rest,e,hb,_⟩
  ·rw [e,length_map,take_length] at hd
   refine ⟨_,rfl,(by show 2<=Qi;decide),fun t ht=>q t l us _ (s'.trans (Zg ht _)) Ze (Zg ht _ _ _ el) (hd.tf (Zg ht _).tf)⟩
  ·rw [e,length_append,length_map,length_cons] at hil;omega
def Zex (K:Qb)(n:Nat):Sp:=fun vs H Q _=>∃(a:Addr)(d:Nat)(us:List V)(hs:List (Nat×Pg)),vs=[.ref a,.int (d:Int)]/\H a=some (.lst us)/\HdL H us hs/\hs.length < n/\hs.length<=1000/\Xr d hs/\(∀ x∈hs,d<=x.1/\x.2.ok/\x.2.inner=[])/\∀ t H',Same H H'->DatT K H' t (.tuple (Pg.dats (bt hs.length d hs)))->Q t H'
abbrev nBu:List Str:=["_law_found","_law_depth","_law_steps","_law_k","_law_step_here","_law_within"]
abbrev Zbw:List Str:=["_law_found","_law_depth"]
theorem scBu:ZB nBu Zbw (Zl s_l_built):=⟨rfl,rfl,rfl,by decide +kernel,rfl,by decide +kernel,by decide +kernel⟩
theorem ZdG {f:Addr}{fd:Qq}{n k:Nat}(F:Fun K "_law_built" "_law_built" s_l_built f fd)(T:Ya mg)(DBu:Def P w K mg base k "_law_built" Zbw (fun vs H Q E=>∃ m,m < n/\Zex K m vs H Q E)):FnOk P w K mg base Yc (k+1) f fd Zbw (Zex K n):=by
 refine F.ok scBu (fun vs H Q E h=>?_) (fun cdv A outer s H vs Q E hr h=>?_)
 ·obtain ⟨a,_,_,_,rfl,_⟩:=h;rfl
 obtain ⟨a,d,us,hs,rfl,ea,hd,hn,hl,hH,hok,q⟩:=h
 refine' ⟨?t,?h,?r⟩
 case h =>
  conv=>arg 2;whnf
  with_reducible refine' (Zf ?h1 (Zf (VQ ?h2 ?h3 (Zf ?h4 (Xq (VQ ?h5 ?h6 (Zf ?h7 (Zh ?h8))) (Xq (ZT ?h9 (Zh ?h10) ZI) (Zh ?h11))))) (Zh ?h12)))
  case h1=>exact Wt (i:=2) (j:=3) rfl scBu.nd rfl rfl (by decide) rfl rfl (Zb (ZH Za) (Zb Zc Za)) rfl
  case h2=>exact Ga
  case h3=>exact ZA UF (pv 3) (Zm ZP rfl T.len Qu (Zb (pv 0) Za)) (ZC _)
  case h4=>exact VE (i:=4) (j:=5) (k:=3) rfl scBu.nd rfl rfl rfl (by decide) (by decide) (by decide) rfl rfl rfl (Zb (ZG YI (ZG ZR (pv 0) (pv 3) (fun _ _=>rfl)) Zc (fun _ _=>rfl)) (Zb (ZH Za) (Zb (Zj ZO (pv 3) Zc) Za))) rfl
  case h5=>exact Ga
  case h6=>exact PW.pt (Vg (ZA UF (pv 3) (Zm ZP rfl T.len Qu (Zb (pv 0) Za)) (ZC _)) (UC (ZA UG (ZG YI (ZG ZR (pv 0) (pv 3) (fun _ _=>rfl)) Zc (fun _ _=>rfl)) (pv 1) (ZC _))))
  case h7=>exact YW (ZU QG QR QS YG (pv 5) (Zb (ZG ZR (pv 0) (pv 3) (fun _ _=>rfl)) Za))
  case h8=>exact Zr (i:=3) scBu.nd rfl (Qy rfl) (Zj ZO (pv 3) Zc)
  case h9=>exact ZA Wo (ZG YI (pv 4) Zc (fun _ _=>rfl)) (ZV (Zb Zk (Zb Zk (Zb Zk Za)))) rfl
  case h10=>exact Zr (i:=4) scBu.nd rfl (Qy rfl) (Zj ZcK (pv 4) (ZV (Zb (Zu DBu hr (Zb (pv 5) (Zb (Zj ZO (pv 1) Zc) Za))) Za)))
  case h11=>exact YW (ZU QG QR QS YG (pv 2) (Zb (pv 4) Za))
  case h12=>exact Zo (Yw We rfl T.tuple (by decide +kernel) (Zb (pv 2) Za))
 have hul:=hd.len
 refine ⟨(by show 0<=Qi;decide),fun l hl0=>⟨_,_,rfl,?_⟩⟩
 have s0:=Zg hl0 (.lst [])
 refine ⟨fun m σ H'=>∃ (k:Nat) (ps:List Pg) (xs:List V) (x4 x5:Option V),m=hs.length - k/\σ=[some (.ref a),some (.int (d:Int)),some (.ref l),some (.int (k:Int)),x4,x5]/\Same H H'/\H' l=some (.lst xs)/\DatTs K H' xs (Pg.dats ps)/\xs.length<=k/\k<=hs.length/\Xr d (hs.drop k)/\bt hs.length d hs=ps++bt hs.length d (hs.drop k),⟨_,0,[],[],_,_,rfl,rfl,s0,Ze,.nil,Qh _,Qp _,hH,by rw [drop_zero];rfl⟩,?_⟩
 rintro m σ H1 ⟨k,ps,xs,x4,x5,rfl,rfl,s1,el,dx,hxk,hkl,hHk,hbt⟩
 refine ⟨_,rfl,_,rfl,a,us,rfl,.inl (SqL.of (s1 _ _ ea)),_,_,rfl,rfl,_,rfl,?_⟩
 rw [hul]
 by_cases hk:k < hs.length
 ·rw [decide_eq_true (show (k:Int) < (hs.length:Int) by omega)]
  obtain ⟨v,hv⟩:∃ v,us[k]?=some v:=⟨_,getElem?_eq_getElem (by omega)⟩
  obtain ⟨x,ex,t,h,rfl,et,eh⟩:=hd.at hv
  obtain ⟨lv,p⟩:=x
  obtain ⟨hlv,hp,hin⟩:=hok _ (mem_of_getElem? ex)
  have hp:p.ok:=hp
  have hlv:d<=lv:=hlv
  obtain ⟨ho1,ho2⟩:=Zaf ex hHk
  have ho1:lv<=d:=ho1
  have hle:lv=d:=by omega
  subst hle
  have ho2:Xr (if p.isB=true then lv+1 else lv) (hs.drop (k+1)):=ho2
  obtain ⟨o1,o2,o3⟩:=ZcZ ho2
  have hdk:hs.drop k=(lv,p)::hs.drop (k+1):=by
   obtain ⟨z1,z2⟩:=Ql.mp ex
   rw [drop_eq_getElem_cons z1,z2]
  refine Zx ⟨fun σ' H'=>∃ (k':Nat) (ps:List Pg) (xs:List V) (x4 x5:Option V),k < k'/\σ'=[some (.ref a),some (.int (lv:Int)),some (.ref l),some (.int (k':Int)),x4,x5]/\Same H H'/\H' l=some (.lst xs)/\DatTs K H' xs (Pg.dats ps)/\xs.length<=k'/\k'<=hs.length/\Xr lv (hs.drop k')/\bt hs.length lv hs=ps++bt hs.length lv (hs.drop k'),fun σ' H' ⟨k',ps,xs,x4,x5,h1,h2,h3,h4,h5,h6,h7,h8,h9⟩=>⟨hs.length - k',by omega,k',ps,xs,x4,x5,rfl,h2,h3,h4,h5,h6,h7,h8,h9⟩,?_⟩
  refine ⟨_,rfl,_,rfl,a,us,_,_,rfl,rfl,SqL.of (s1 _ _ ea),ZF hv,t,_,_,_,rfl,rfl,SqT.of (s1 _ _ et),ZF (j:=1) rfl,(by show 0<=Qi;decide),fun wl hwl=>?_⟩
  refine ⟨_,rfl,_,_,rfl,rfl,_,_,_,rfl,?_⟩
  have sw:=Zg hwl (.lst [])
  have hwll:wl≠l:=fun z=>by rw [z,el] at hwl;cases hwl
  have hHl:∀ {b:Addr} {o:HO},H b=some o->b≠l:=fun z z2=>by rw [z2,hl0] at z;cases z
  generalize hr:hs.drop (k+1)=r at hdk o1 o2 o3
  have hrl:r.length=hs.length - (k+1):=by rw [<- hr,length_drop]
  refine ⟨fun σ' H'=>∃ (k':Nat) (ws:List V),k'<=hs.length/\k < k'/\σ'=[some (.ref a),some (.int (lv:Int)),some (.ref l),some (.int (k':Int)),some (.ref h),some (.ref wl)]/\Same H H'/\H' l=some (.lst xs)/\DatTs K H' xs (Pg.dats ps)/\H' wl=some (.lst ws)/\HdL H' ws (r.takeWhile (YD lv))/\hs.drop k'=r.dropWhile (YD lv),?_,?_⟩
  ·refine ⟨fun m σ' H'=>∃ (j:Nat) (ws:List V),m=r.length - j/\j<=r.length/\σ'=[some (.ref a),some (.int (lv:Int)),some (.ref l),some (.int ((k+1+j:Nat):Int)),some (.ref h),some (.ref wl)]/\Same H H'/\H' l=some (.lst xs)/\DatTs K H' xs (Pg.dats ps)/\H' wl=some (.lst ws)/\HdL H' ws (r.take j)/\(∀ x∈r.take j,YD lv x=true),⟨_,0,[],rfl,Qp _,rfl,s1.trans sw,sw _ _ el,dx.same sw,Ze,.nil,fun _ z=>nomatch z⟩,?_⟩
   rintro m σ' H2 ⟨j,ws,rfl,hj,rfl,s2,el2,dx2,ew,hw,hall⟩
   refine ⟨_,rfl,_,rfl,a,us,rfl,.inl (SqL.of (s2 _ _ ea)),_,_,rfl,rfl,_,rfl,?_⟩
   rw [hul]
   by_cases hj2:j < r.length
   ·rw [decide_eq_true (show ((k+1+j:Nat):Int) < (hs.length:Int) by omega)]
    obtain ⟨v2,hv2⟩:∃ v,us[k+1+j]?=some v:=⟨_,getElem?_eq_getElem (by omega)⟩
    obtain ⟨x2,ex2,t2,h2,rfl,et2,eh2⟩:=hd.at hv2
    have er2:r[j]?=some x2:=by rw [<- hr,ND];exact ex2
    obtain ⟨l2,p2⟩:=x2
    refine Zx ⟨_,rfl,_,rfl,a,us,_,_,rfl,rfl,SqL.of (s2 _ _ ea),ZF hv2,t2,_,_,_,rfl,rfl,SqT.of (s2 _ _ et2),ZF (j:=0) rfl,_,rfl,_,_,rfl,rfl,_,rfl,?_⟩
    by_cases hc:lv < l2
    ·rw [decide_eq_true (show (lv:Int) < (l2:Int) by omega)]
     refine Zx ⟨fun σ'' H'=>∃ (j':Nat) (ws:List V),j'=j+1/\σ''=[some (.ref a),some (.int (lv:Int)),some (.ref l),some (.int ((k+1+j':Nat):Int)),some (.ref h),some (.ref wl)]/\Same H H'/\H' l=some (.lst xs)/\DatTs K H' xs (Pg.dats ps)/\H' wl=some (.lst ws)/\HdL H' ws (r.take j'),fun σ'' H' ⟨j',ws,e1,e2,e3,e4,e5,e6,e7⟩=>⟨r.length - j',by omega,j',ws,rfl,by omega,e2,e3,e4,e5,e6,e7,fun x hx=>?_⟩,?_⟩
     ·subst e1
      rw [take_add_one,er2] at hx
      rcases mem_append.mp hx with hx | hx
      ·exact hall x hx
      ·rw [mem_singleton.mp hx];exact decide_eq_true hc
     ·have hwn:=hw.len
      rw [length_take] at hwn
      refine ⟨_,rfl,.inl ⟨rfl,_,SqL.of ew⟩,_,rfl,_,rfl,a,us,_,_,rfl,rfl,SqL.of (s2 _ _ ea),ZF hv2,wl,_,_,rfl,rfl,ew,Wq (show _<=1000 by omega),?_⟩
      have hwlH:H wl=none:=XQ s1 hwl
      have tf1:TF H2 (upd H2 wl (.lst (ws++[.ref t2]))):=Zaz ew
      refine ⟨_,rfl,_,_,rfl,rfl,j+1,ws++[.ref t2],rfl,?_,XC s2 hwlH,by rw [Zn (fun z=>hwll z.symm)];exact el2,dx2.tf tf1,Ze,?_⟩
      ·rw [show ((k+1+(j+1):Nat):Int)=((k+1+j:Nat):Int)+1 by omega];rfl
      ·rw [take_add_one,er2]
       exact (hw.tf tf1).app ⟨t2,h2,rfl,tf1.tup _ _ (s2 _ _ et2),tf1.tup _ _ (s2 _ _ eh2)⟩
    ·rw [decide_eq_false (show ¬ (lv:Int) < (l2:Int) by omega)]
     have hrj:r.drop j=(l2,p2)::r.drop (j+1):=by
      obtain ⟨z1,z2⟩:=Ql.mp er2
      rw [drop_eq_getElem_cons z1,z2]
     have hsp:r=r.take j++(l2,p2)::r.drop (j+1):=by rw [<- hrj,take_append_drop]
     have htw:r.takeWhile (YD lv)=r.take j:=by
      conv=>lhs;rw [hsp]
      rw [SM hall,PR,if_neg (by unfold YD;simpa using hc),append_nil]
     have hdw:r.dropWhile (YD lv)=r.drop j:=by
      conv=>lhs;rw [hsp]
      rw [SN hall,dropWhile_cons,if_neg (by unfold YD;simpa using hc),hrj]
     refine Zw ⟨k+1+j,ws,by omega,by omega,rfl,s2,el2,dx2,ew,by rw [htw];exact hw,?_⟩
     rw [hdw,<- hr,List.drop_drop]
   ·rw [decide_eq_false (show ¬ ((k+1+j:Nat):Int) < (hs.length:Int) by omega)]
    have hjr:j=r.length:=by omega
    subst hjr
    rw [take_length] at hw hall
    have htw:r.takeWhile (YD lv)=r:=by
     have:=SM (p:=YD lv) (l₁:=r) (l₂:=[]) hall
     rw [append_nil] at this;rw [this];simp
    have hdw:r.dropWhile (YD lv)=[]:=by
     have:=SN (p:=YD lv) (l₁:=r) (l₂:=[]) hall
     rw [append_nil] at this;rw [this];rfl
    refine Zw (Zw ⟨k+1+r.length,ws,by omega,by omega,rfl,s2,el2,dx2,ew,by rw [htw];exact hw,?_⟩)
    rw [hdw];exact drop_of_length_le (by omega)
  ·rintro σ' H2 ⟨k',ws,hk1,hk2,rfl,s2,el2,dx2,ew,hw,hdr⟩
   have htl:=ZdT (YD lv) r
   have hdl:=ZaC (YD lv) r
   refine ⟨fun σ' H'=>∃ st:Addr,σ'=[some (.ref a),some (.int (lv:Int)),some (.ref l),some (.int (k':Int)),some (.ref st),some (.ref wl)]/\Same H2 H'/\DatT K H' (.ref st) (VF p (bt hs.length (lv+1) (r.takeWhile (YD lv)))).dat,?_,?_⟩
   ·refine ⟨_,rfl,h,_,_,_,rfl,rfl,SqT.of (s2 _ _ eh),ZF (j:=0) rfl,(by decide),fun tp htp=>?_⟩
    have s3:=Zg htp (.tup [.str "begin",.str "late",.str "in"])
    refine ⟨tp,[.str "begin",.str "late",.str "in"],rfl,.inr (SqT.of Ze),rfl,rfl,_,rfl,?_⟩
    generalize upd H2 tp (.tup [.str "begin",.str "late",.str "in"])=H3 at s3 ⊢
    rw [show (if false=true then !YL (.str p.word) [.str "begin",.str "late",.str "in"] else YL (.str p.word) [.str "begin",.str "late",.str "in"])=p.isB from ZeP hp]
    have eh3:=s3 _ _ (s2 _ _ eh)
    cases hb:p.isB with
    | false =>
     refine Zw ⟨h,rfl,s3,?_⟩
     rw [Znr hb]
     exact Zig hp hb (SqT.of eh3)
    | true =>
     refine Zx ⟨_,rfl,_,rfl,_,rfl,_,_,rfl,rfl,?_⟩
     refine ⟨(r.takeWhile (YD lv)).length+1,by omega,wl,lv+1,ws,r.takeWhile (YD lv),rfl,s3 _ _ ew,hw.tf s3.tf,RY _,by omega,o1,fun x hx=>?_,fun tb H4 s4 dt=>?_⟩
     ·have h1:=Zee _ _ x hx
      unfold YD at h1
      have hxr:x∈r:=(Ox _).subset hx
      have hxh:x∈hs:=by rw [<- hr] at hxr;exact JC hxr
      exact ⟨of_decide_eq_true h1,(hok x hxh).2⟩
     obtain ⟨b,zs,rfl,eb,hdt⟩:=DatT.tupI dt
     refine ⟨(by show 1<=Qi;decide),fun p2 hp2=>?_⟩
     have s5:=Zg hp2 (.tup [.ref b])
     refine ⟨h,p2,p.hv,[.ref b],rfl,rfl,SqT.of (s5 _ _ (s4 _ _ eh3)),SqT.of Ze,by unfold Pg.hv;simp,?_,fun z=>(nomatch z),fun _ p3 hp3=>?_⟩
     ·exact Zp (show _<=100 by unfold Pg.hv;cases p<;>simp [Pg.vl])
     have s6:=Zg hp3 (.tup (p.hv++[.ref b]))
     refine ⟨p3,rfl,((s3.trans s4).trans s5).trans s6,?_⟩
     rw [VC hs.length (r.takeWhile (YD lv)).length (lv+1) _ (by omega) (Qh _)]
     have hbf:(VF p (bt (r.takeWhile (YD lv)).length (lv+1) (r.takeWhile (YD lv)))).isB=true:=by cases p<;>first | rfl | cases hb
     have hvf:(VF p (bt (r.takeWhile (YD lv)).length (lv+1) (r.takeWhile (YD lv)))).hv=p.hv:=by cases p<;>rfl
     refine ZfJ hbf (a:=p3) (t:=b) (xs:=zs) (by rw [hvf];exact SqT.of Ze) ((eb.tf s5.tf).tf s6.tf) ?_
     rw [Zde,if_pos hb]
     exact (hdt.same s5).same s6
   ·rintro σ' H3 ⟨st,rfl,s3,dst⟩
    have el3:=s3 _ _ el2
    refine ⟨_,rfl,.inl ⟨rfl,_,SqL.of el3⟩,_,rfl,l,_,_,rfl,rfl,el3,Wq (show _<=1000 by omega),?_⟩
    have tf4:TF H3 (upd H3 l (.lst (xs++[.ref st]))):=Zaz el3
    refine ⟨k',ps++[VF p (bt hs.length (lv+1) (r.takeWhile (YD lv)))],xs++[.ref st],_,_,hk2,rfl,XC (s2.trans s3) hl0,Ze,?_,by rw [length_append,length_singleton];omega,hk1,by rw [hdr];exact o2,?_⟩
    ·rw [Pg.dats_app]
     exact ((dx2.same s3).tf tf4).append (.cons (dst.tf tf4) .nil)
    ·rw [hbt,hdk,hdr,append_assoc]
     congr 1
     obtain ⟨N,hN⟩:∃ N,hs.length=N+1:=⟨hs.length - 1,by omega⟩
     rw [hN]
     rw [VC (N+1) N (lv+1) _ (by omega) (by omega),VC (N+1) N lv (r.dropWhile (YD lv)) (by omega) (by omega)]
     rw [bt];rfl
 ·rw [decide_eq_false (show ¬ (k:Int) < (hs.length:Int) by omega)]
  have hke:hs.drop k=[]:=drop_of_length_le (by omega)
  rw [hke] at hbt
  have hb0:bt hs.length d []=[]:=by cases hs.length<;>rfl
  rw [hb0,append_nil] at hbt
  refine Zw ⟨_,rfl,l,xs,rfl,.inl ⟨SqL.of el,fun t ht=>q _ _ (s1.trans (Zg ht _)) ?_⟩⟩
  rw [hbt]
  exact .tup (SqT.of Ze) (dx.same (Zg ht _))
theorem ZdY {f:Addr}{fd:Qq}(F:Fun K "_law_built" "_law_built" s_l_built f fd)(T:Ya mg)(b:Binds K fd Zbw [])(kp:Gk K (.ref f)=true)(m:mg "_law_built"=some (.ref f)):∀ n,FnOk P w K mg base Yc (n+1) f fd Zbw (Zex K n)
 | 0=>ZdG F T ⟨_,_,⟨fun vs H Q E ⟨_,h,_⟩=>absurd h (Gv _),fun _ _ _ _ _ _ _ _ _ _ _ _ _ ⟨_,h,_⟩=>absurd h (Gv _)⟩,b,kp,m⟩
 | n+1=>ZdG F T ⟨_,_,(ZdY F T b kp m n).imp fun vs H Q E ⟨j,h,a,d,us,hs,a1,a2,a3,a4,a5⟩=>⟨a,d,us,hs,a1,a2,a3,by omega,a5⟩,b,kp,m⟩
end
def Yd (x:Str):Nat:=x.cps.toList.count 10
theorem ZbZ:∀ rows:List Str,rows.length<=Yd (Ge ⟨#[10]⟩ rows)+1
 | []=>Qp _
 | [r]=>by simp
 | r::q::rs=>by
  have ih:=ZbZ (q::rs)
  unfold Yd at ih ⊢
  rw [Yf,count_append,OX]
  rw [length_cons];omega
theorem VO (x:Str):(QF x (Qa "\n")).length<=Yd x+1:=by
 have h:=ZbZ (QF x (Qa "\n"))
 have e:Ge ⟨#[10]⟩ (QF x (Qa "\n"))=x:=by rw [<- lf1];exact GB _ _
 rwa [e] at h
theorem Zcx:∀{ws:List Str}{r:Str},r∈ws->r.length<=(ws.map (·.length)).sum
 | w::ws,r,h=>by
  rw [map_cons,sum_cons]
  rcases mem_cons.mp h with rfl | h
  ·omega
  ·have:=Zcx h;omega
theorem Zhx (x:Str):∀ r∈QF x (Qa "\n"),r.length<=x.length:=fun r hr=>by
 have h:=Zcx hr
 have hw:=PP x (Qa "\n") (by decide +kernel)
 have hp:=XB x (Qa "\n")
 have:1<=(QF x (Qa "\n")).length:=length_pos_iff.mpr hp
 omega
section
variable {P:Qm}{w:QC}{K:Qb}{mg:Str->Option Qe}{base:Heap}{CB fpm:Addr}{fdpm:Qq}
def spRt:Sp:=fun vs H Q _=>∃ x:Str,vs=[.str x]/\x.length<=75000/\Yd x<=60/\∀ H',Same H H'->Q (.bl true) H'
abbrev nRt:List Str:=["_law_text","_law_bad","_law_found","_law_program_here"]
abbrev ZjL:List Str:=["_law_text"]
theorem scRt:ZB nRt ZjL (Zl s_l_right):=⟨rfl,rfl,rfl,by decide +kernel,rfl,by decide +kernel,by decide +kernel⟩
theorem ZkV {f:Addr}{fd:Qq}{k:Nat}(F:Fun K "_law_right" "_law_right" s_l_right f fd)(T:Ya mg)(DRd:Def P w K mg base k "_law_read" Zkc spRd)(DBu:Def P w K mg base k "_law_built" Zbw (Zex K 100))(DPT:Def P w K mg base k "program_text" ZjQ (spPT K 100))(DPm:Def P w K mg base k "program_from" ZaL (ZjU K))(DSa:Def P w K mg base k "_law_same" ZbK (ZaI K 200))(DRf:Def P w K mg base k "_law_refused" ZjF (spRf P w K mg base 8 CB))
   (OPB:FnOk P w K mg base (CX1 P w base) 8 fpm fdpm ZaL (ZgS CB)) (hb:Binds K fdpm ZaL []) (hkp:Gk K (.ref fpm)=true) (hPm:mg "program_from"=some (.ref fpm)):FnOk P w K mg base Yc (k+1) f fd ZjL spRt:=by
 refine F.ok scRt (fun vs H Q E h=>?_) (fun cdv A outer s H vs Q E hr h=>?_)
 · obtain ⟨x,rfl,_⟩:=h;rfl
 obtain ⟨x,rfl,hx,hlf,q⟩:=h
 refine' ⟨?t,?h,?r⟩
 case h =>
   conv=>arg 2;whnf
   with_reducible refine' (Xq ?h1 (Zf (ZT ?h2 (Zh ?h3) ZI) (Zf ?h4 (Zh ?h5))))
   case h1=>exact Uk (Zu DRd hr (Zb (Yv (ZA WK (pv 0) Zk (ZC _)) (ZU Qo QX Gu Wn (pv 0) (Zb Zk Za)) (ZH Za)) Za)) (Wb rfl (Ye (ZM (i:=1) scRt.nd rfl (Qy rfl)) (Ye (ZM (i:=2) scRt.nd rfl (Qy rfl)) Xw)))
   case h2=>exact Wu (ZcR (pv 1))
   case h3=>exact Zo (Zu DSa hr (Zb (Zu DRf hr (Zb (YS (v:=.ref _) rfl hPm rfl) (Zb (pv 0) Za))) (Zb (pv 1) Za)))
   case h4=>exact Zr (i:=3) scRt.nd rfl (Qy rfl) (Zu DBu hr (Zb (pv 2) (Zb Zc Za)))
   case h5=>exact Zo (XZ (Zu DSa hr (Zb (Zu DPm hr (Zb (pv 0) Za)) (Zb (pv 3) Za))) (WH (Xv Xb (Zu DPT hr (Zb (pv 3) Za)) (pv 0) (ZC _))))
 refine ⟨fun σ H'=>∃ hs:List (Nat×Pg),(∀ y∈hs,y.2.ok/\y.2.inner=[])/\Xr 0 hs/\hs.length<=61/\Same H H' /\
   ((∃ l us,σ=[some (.str x),some .non,some (.ref l),none]/\H' l=some (.lst us)/\HdL H' us hs/\x=Vp (bt hs.length 0 hs)/\Pg.oks (bt hs.length 0 hs)/\Pg.hgts (bt hs.length 0 hs)<=hs.length/\Pg.manys (bt hs.length 0 hs)=hs.length) \/
    (∃ l bad rest,σ=[some (.str x),some (.int (hs.length:Int)),some (.ref l),none]/\QF x (Qa "\n")=hs.map ZY++bad::rest/\ZbN (Vn 0 hs) bad/\x.length≠0/\bad.length<=80000)),?_,?_⟩
 · refine ⟨_,rfl,rfl,_,rfl,?_⟩
   by_cases h0:x=""
   · subst h0
     rw [decide_eq_true (show V.str (Qa "")=V.str (Qa "") from rfl)]
     refine Zw ⟨(by show 0<=Qi;decide),fun l hl=>?_⟩
     have s1:=Zg hl (.lst [])
     have el:upd H l (.lst []) l=some (.lst []):=Ze
     generalize upd H l (.lst [])=H1 at s1 el ⊢
     dsimp only [Xf]
     refine ⟨l,[],[],rfl,el,(by decide),(fun _ z=>nomatch z),(fun _ z=>nomatch z),trivial,.inl ⟨rfl,fun t l2 us H2 s2 et el2 hd=>?_⟩⟩
     refine ⟨t,_,rfl,SqT.of et,rfl,_,_,rfl,_,_,rfl,rfl,[],(fun _ z=>nomatch z),trivial,(by decide),s1.trans s2,.inl ⟨l2,us,rfl,el2,hd,(by decide +kernel),trivial,Qh _,rfl⟩⟩
   · rw [decide_eq_false (show ¬ V.str x=V.str (Qa "") from fun z=>h0 (by injection z))]
     have hx0:x.length≠0:=fun z=>h0 (ZZ (by
       have:x.cps.toList=[]:=eq_nil_of_length_eq_zero (by rw [<- Zq];exact z)
       rw [this];rfl))
     refine Zx ⟨_,rfl,rfl,x,_,rfl,rfl,(by decide +kernel),by omega,fun l hl=>?_⟩
     have hsr:=VO x
     have hsb:=Zhx x
     generalize hrw:QF x (Qa "\n")=rows at hsr hsb ⊢
     have s1:=Zg hl (.lst (rows.map V.str))
     have el:upd H l (.lst (rows.map V.str)) l=some (.lst (rows.map V.str)):=Ze
     generalize upd H l (.lst (rows.map V.str))=H1 at s1 el ⊢
     obtain ⟨hs,hok,hH,hc⟩:=Zcu rows 0
     have hhl:hs.length<=61:=by
       have:hs.length<=rows.length:=by
         rcases hc with e | ⟨bad,rest,e,_⟩
         · rw [e,length_map];exact Qh _
         · rw [e,length_append,length_map];omega
       omega
     dsimp only [Xf]
     refine ⟨l,rows,hs,rfl,el,by omega,fun r hr=>by have:=hsb r hr;omega,hok,hH,?_⟩
     rcases hc with e | ⟨bad,rest,e,hbad⟩
     · refine .inl ⟨e,fun t l2 us H2 s2 et el2 hd=>?_⟩
       obtain ⟨a1,a2,a3,a4⟩:=Zio hx0 (hrw.trans e) hok hH
       exact ⟨t,_,rfl,SqT.of et,rfl,_,_,rfl,_,_,rfl,rfl,hs,hok,hH,hhl,s1.trans s2,.inl ⟨l2,us,rfl,el2,hd,a1,a2,a3,a4⟩⟩
     · refine .inr ⟨bad,rest,e,hbad,fun t l2 H2 s2 et=>?_⟩
       exact ⟨t,_,rfl,SqT.of et,rfl,_,_,rfl,_,_,rfl,rfl,hs,hok,hH,hhl,s1.trans s2,.inr ⟨l2,bad,rest,rfl,e,hbad,hx0,by have:=hsb bad (by rw [e];simp);omega⟩⟩
 · rintro σ H1 ⟨hs,hok,hH,hhl,s1,hcase⟩
   rcases hcase with ⟨l,us,rfl,el,hd,hxp,ho,hh,hm⟩ | ⟨l,bad,rest,rfl,hsp,hbad,hx0,hbl⟩
   · refine ⟨_,rfl,_,rfl,Zw ?_⟩
     refine ⟨_,rfl,l,0,us,hs,rfl,el,hd,by omega,by omega,hH,fun y hy=>⟨Qp _,hok y hy⟩,fun t H2 s2 dt=>?_⟩
     generalize bt hs.length 0 hs=ps at hxp ho hh hm dt
     have hdp:=Pg.deeps ps
     have hrk:=Pg.rk_le ps
     subst hxp
     refine ⟨_,rfl,ps,rfl,ho,by omega,by omega,fun t2 H3 s3 dt3=>⟨_,rfl,?_⟩⟩
     obtain ⟨A1,nb1⟩:=ZiR dt3 ho (by omega)
     obtain ⟨A2,_⟩:=ZiR (dt.same s3) ho (by omega)
     refine ⟨_,_,_,rfl,A1,A2,nb1,by show GD (Pg.dats ps)+1 < 200;omega,fun H4 s4=>⟨_,rfl,Zx ?_⟩⟩
     refine ⟨_,rfl,t,ps,rfl,(dt.same s3).same s4,ho,by omega,by omega,by omega,fun H5 s5=>⟨_,rfl,rfl,?_⟩⟩
     rw [decide_eq_true rfl]
     exact q H5 ((((s1.trans s2).trans s3).trans s4).trans s5)
   · refine ⟨_,rfl,_,rfl,Zx ?_⟩
     have hlv:=ZcG hH
     refine ⟨_,rfl,fpm,fdpm,ZaL,ZgS CB,x,rfl,OPB,hb,hkp,fun Qc Ec hQ hE=>⟨x,hs,bad,rest,rfl,by omega,hx0,hsp,fun y hy=>⟨(hok y hy).1,by have:=hlv y hy;omega⟩,hH,hbad,hbl,by omega,fun dx H2 s2 _ ed=>hE dx _ H2 ed fun H3 s3=>?_⟩⟩
     refine ⟨_,rfl,.int _,.int _,.int (hs.length:Int),rfl,.int _,.int _,rfl,(by show 0 < 200;decide),fun H4 s4=>?_⟩
     exact q H4 (((s1.trans s2).trans s3).trans s4)
end
end K69
namespace L2
open PySem PySem.Spec PyProof.Rows
def Zmq (K:Qb):V->List V->Hp->VK->Prop:=fun x vs H Q=>∃(l:Addr)(ns:List Str)(y:Str),x=.ref l/\vs=[.str y]/\SqL K H l (ns.map V.str)/\Q (.int ((ns.countP fun z=>decide (z=y):Nat):Int)) H
section
variable {X:Cx}
theorem ZfV {y:Str}:∀{ns:List Str}{us:List Qe},Vals (ns.map V.str) us->us.countP (WG (.str y))=ns.countP fun z=>decide (z=y)
 | [],_,.nil=>rfl
 | z::ns,_,.cons e r=>by
  rw [Mv,Mv,ZfV r,Zck e rfl]
  show _+(if (z == y)=true then 1 else 0)=_
  by_cases h:z=y
  ·rw [if_pos (by simpa using h),if_pos (by simpa using h)]
  ·rw [if_neg (by simpa using h),if_neg (by simpa using h)]
theorem Zir:MtR X "list.count" (Zmq X.K):=by
 intro pins s σ H x vs v us Q I rx rv h
 obtain ⟨l,ns,y,rfl,rfl,hl,q⟩:=h
 cases rx
 obtain ⟨u,rfl,ru⟩:=YU rv
 obtain ⟨its,r,ht,_⟩:=I.list hl
 obtain ⟨⟨cls,dd,data,sl⟩,n,ho,hc,hsl,hd⟩:=ht
 dsimp only at hc hsl hd
 subst hc hsl hd
 refine Sl Oc ⟨_,ho,rfl⟩ PySem.F.entry_list_count (PySem.F.args_list_count_2 _ _) (PySem.SeqAt.list_countAt l its.toArray n none sl _ (WG (.str y))) ⟨ho,fun w hw=>WQ ru rfl r (Zax ns) w (by simpa using hw),?_⟩
 rw [show its.toArray.toList=its from rfl,ZfV r]
 exact ⟨.int _,H,I.tok _,⟨_,rfl⟩,q⟩
theorem ZmL (n:Nat):Ro ((n:Int) - 1) (-1) (-1)=(Gs n).map fun k=>n - 1 - k:=by
 unfold Ro
 have e1:(if (-1:Int) > 0 then (if (n:Int) - 1 < -1 then (-1 - ((n:Int) - 1)+-1 - 1) / -1 else 0) else (if (n:Int) - 1 > -1 then ((n:Int) - 1 - -1 - -1 - 1) / (- -1) else 0)).toNat=n:=by
  rw [if_neg (by decide)]
  split
  ·rw [show (- -1:Int)=1 by decide,Om];omega
  ·omega
 dsimp only
 rw [e1]
 apply PQ
 intro k hk
 have:=mem_range.mp hk
 omega
theorem Zkk {α:Type}(m:List α)(n:Nat):(Gs n).filterMap (fun k=>m[k]?)=m.take n:=by
 induction n with
 | zero=>simp
 | succ n ih =>
  rw [OB,Sc,ih,take_add_one]
  cases e:m[n]?<;>simp [e]
theorem Zkh {α:Type}(l:List α):((Gs l.length).map fun k=>l.length - 1 - k).filterMap (fun i=>l[i]?)=l.reverse:=by
 rw [Th]
 have h1:(Gs l.length).filterMap ((fun i=>l[i]?) ∘ fun k=>l.length - 1 - k)=(Gs l.reverse.length).filterMap (fun k=>l.reverse[k]?):=by
  rw [length_reverse]
  refine VP fun k hk=>?_
  have hk':=mem_range.mp hk
  show l[l.length - 1 - k]?=l.reverse[k]?
  rw [Se hk']
 rw [h1,Zkk,take_of_length_le (Qh _)]
def Zaw (z:Str):Str:=⟨z.cps.toList.reverse.toArray⟩
def ZpF (te:TE):TE:=fun σ H Q=>te σ H fun x H1=>∃ z,x=.str z/\z.length<=100000/\Q (.str (Zaw z)) H1
theorem Zmr {e:Expr}{te:TE}{k:Nat}{pc pu p2 pos:Pos}(he:PE X e te):PE X (.Subscript e (.Slice none none (some (.UnaryOp .USub (.Constant (.int 1) k pc) pu)) p2) pos) (ZpF te):=by
 intro pins s σ H Q I h
 refine Nz (Zt (he pins s σ H _ I h) fun v s1 ⟨x,H1,I1,r1,z,ex,hz,q1⟩=>?_)
 subst ex
 obtain ⟨t,rfl⟩:=r1
 refine Mx (Zt (Zz pins s1 σ H1 (fun o H2=>o=none/\H2=H1) I1 ⟨rfl,rfl⟩) fun vl s2 ⟨l,H2,I2,pl,el,eh⟩=>Zt (Zz pins s2 σ H2 (fun o H3=>o=none/\H3=H2) I2 ⟨rfl,rfl⟩) fun vu s3 ⟨u,H3,I3,pu',eu,eh'⟩=>?_)
 subst el eh eu eh'
 refine Zt (Zv (X:=X) (Vu UM Zc) pins s3 σ H3 (fun o H4=>o=some (-1)/\H4=H3) I3 ⟨_,rfl,_,rfl,rfl,rfl⟩) fun vst s4 ⟨o,H4,I4,ps,eo,eh4⟩=>?_
 subst eo eh4
 have I5:Inv X pins σ H4 { s4 with heap:=s4.heap.push { cls:=.type "slice",data:=.fields #[vl,vu,vst] } }:=I4.kept (t':=s4.toks) fun b ob q=>Qf _ q
 show Qr (QA X.prog X.w) X.A (RJ e (.Slice none none (some (.UnaryOp .USub (.Constant (.int 1) k pc) pu)) p2) (.str z t) (.ref s4.heap.objs.size)) (EP X pins σ Q) X.xe { s4 with heap:=s4.heap.push { cls:=.type "slice",data:=.fields #[vl,vu,vst] } }
 refine tail_any (ops:=[.str z t,.ref s4.heap.objs.size]) (Sk _ _ _) NC.lookup ?_ (by with_unfolding_all rfl)
 cases pl;cases pu'
 obtain ⟨tk,rfl⟩:∃ tk,vst=.int (-1) tk:=by cases ps;exact ⟨_,rfl⟩
 refine Jb (l:=none) (u:=none) (st:=some (-1,tk)) ⟨_,Qn _ rfl,rfl,rfl⟩ rfl ?_
 have e:sliceMade z t none none (some (-1,tk))=.str (Zaw z):=by
  have e1:slicePicked z none none (some (-1,tk))=(Gs z.cps.toList.length).map fun k=>z.cps.toList.length - 1 - k:=by
   have:=ZmL z.length
   rw [Zq] at this
   rw [<- this,<- Zq]
   rfl
  unfold sliceMade
  rw [if_neg (by simp)]
  rw [e1]
  have e2:=Zkh z.cps.toList
  unfold Zaw
  rw [<- e2]
  congr 3
  exact VP fun i _=>by simp
 rw [e]
 have hl:(Zaw z).length=z.length:=by
  show z.cps.toList.reverse.toArray.size=_
  rw [size_toArray,length_reverse,<- Zq]
 exact ⟨by rw [hl,GV];omega,⟨.str _,H4,I5.tok _,⟨_,rfl⟩,q1⟩⟩
end
end L2
namespace K69
open PySem L2
theorem ZiG {x:Str}{n:Int}(hx:x.length<=10)(h0:1<=n)(hn:n<=100):MulOk x n:=by
 refine ⟨?_,fun h1 _=>?_,fun h1 _=>?_⟩
 ·rw [Ps];exact ⟨decide_eq_false (by omega),decide_eq_false (by omega)⟩
 ·have:(10:Int)<=(2 ^ 63 - 1) / n:=by
   rw [TX (by omega)]
   omega
  omega
 ·have h3:1000<=sizeLine:=by decide
  refine decide_eq_false fun z=>?_
  have h4:n.toNat * x.length<=100 * 10:=Nat.mul_le_mul (by omega) hx
  have h5:x.length * n.toNat<=10 * 100:=Nat.mul_le_mul hx (by omega)
  omega
theorem Zpu {l D l2:Addr}{xs ys:List Str}{Δ:Rs}{H:Hp}(S:Sep ((l,UU (xs.map V.str))::Δ) H)(hD:H D=none)(hl:upd H D (.lst (ys.map V.str)) l2=none):Sep ((l2,UU ((xs++ys).map V.str))::Δ) (upd (upd H D (.lst (ys.map V.str))) l2 (.lst (xs.map V.str++ys.map V.str))):=by
 have:=(((S.new hD (.lst (ys.map V.str))).new hl (.lst (xs.map V.str++ys.map V.str))).drop D).drop l
 rw [map_append];exact this
theorem ZmT {l D:Addr}{xs:List V}{Δ:Rs}{H:Hp}{o:HO}(S:Sep ((l,UU xs)::Δ) H)(hD:H D=none):upd H D o l=some (.lst xs):=(S.new hD o).get l
def wt (ws:List Str):Nat:=(ws.map (·.length)).sum+ws.length
def nf (ws:List Str):Prop:=∀ r∈ws,Yd r=0
theorem Yq (a b:List Str):wt (a++b)=wt a+wt b:=by
 unfold wt;rw [map_append,List.sum_append,length_append];omega
theorem Vh (x:Str):wt [x]=x.length+1:=by unfold wt;simp
theorem Zcq {a b:List Str}(s:a.Sublist b):wt a<=wt b:=by
 have:=Zga s;have:=s.length_le;unfold wt;omega
theorem ZfW (ws:List Str)(n:Nat):wt (ws.take n)<=wt ws:=Zcq (Ph _ _)
theorem Zmd (ws:List Str)(n:Nat):wt (ws.drop n)<=wt ws:=Zcq (TW _ _)
theorem ZbS (ws:List Str)(n:Nat):wt (ws.take n)+wt (ws.drop n)=wt ws:=by rw [<- Yq,take_append_drop]
theorem YF {a b:List Str}(h1:nf a)(h2:nf b):nf (a++b):=fun r hr=>(mem_append.mp hr).elim (h1 r) (h2 r)
theorem XL {ws:List Str}(h:nf ws)(n:Nat):nf (ws.take n):=fun r hr=>h r (mem_of_mem_take hr)
theorem Wh {ws:List Str}(h:nf ws)(n:Nat):nf (ws.drop n):=fun r hr=>h r (JC hr)
theorem Vk {x:Str}(h:Yd x=0):nf [x]:=fun r hr=>by rw [mem_singleton.mp hr];exact h
theorem Vb (x y:Str):Yd (x++y)=Yd x+Yd y:=by unfold Yd;rw [Xl,count_append]
theorem Zdf (x:Str)(lo hi:Option Int):Yd (Qs x lo hi)<=Yd x:=by
 unfold Yd
 rw [YY]
 exact ((Ph _ _).trans (TW _ _)).count_le _
theorem ZfS (x:Str):Yd x<=x.length:=by rw [Zq];exact List.count_le_length
theorem UA {s:Str}(h:s.length=1)(ws:List Str):(QM s ws).length<=wt ws:=by
 rw [tj]
 have:=WY s ws
 rw [h,Tp] at this
 exact this
theorem UE:∀ {ws:List Str},nf ws->Yd (QM " " ws)=0:=by
 intro ws h
 rw [tj,Uq]
 induction ws with
 | nil=>rfl
 | cons a r ih =>
  cases r with
  | nil=>exact h a (mem_cons_self ..)
  | cons b r =>
   have h1:=h a (mem_cons_self ..)
   have h2:=ih fun z hz=>h z (mem_cons_of_mem _ hz)
   unfold Yd at h1 h2 ⊢
   rw [Yf,count_append,OI (by decide),h1,h2]
theorem Vy:∀ {ws:List Str},nf ws->Yd (QM "\n" ws)<=ws.length:=by
 intro ws h
 rw [tj,lf1]
 induction ws with
 | nil=>exact Qh _
 | cons a r ih =>
  cases r with
  | nil=>have:=h a (mem_cons_self ..);show Yd a<=_;omega
  | cons b r =>
   have h1:=h a (mem_cons_self ..)
   have h2:=ih fun z hz=>h z (mem_cons_of_mem _ hz)
   unfold Yd at h1 h2 ⊢
   rw [Yf,count_append,OX,h1,length_cons]
   rw [length_cons] at h2 ⊢;omega
theorem ZbP:∀{ws:List Str}{r:Str},r∈ws->Yd r<=Yd (Ge ⟨#[32]⟩ ws)
 | [a],r,h=>by rw [mem_singleton.mp h];exact Qh _
 | a :: b::ws,r,h=>by
  have e:Yd (Ge ⟨#[32]⟩ (a::b::ws))=Yd a+Yd (Ge ⟨#[32]⟩ (b::ws)):=by
   unfold Yd;rw [Yf,count_append,OI (by decide)]
  rw [e]
  rcases mem_cons.mp h with rfl | h
  ·omega
  ·have:=ZbP h;omega
theorem Zaj (x:Str){s:Str}(h:1<=s.length):wt (QF x s)<=x.length+1:=PP x s h
theorem Zbk {x:Str}(h:Yd x=0):nf (QF x (Qa " ")):=fun r hr=>by
 have:=ZbP hr
 rw [show Ge ⟨#[32]⟩ (QF x (Qa " "))=x by rw [<- Uq];exact GB _ _,h] at this
 omega
theorem Zbi (x:Str):nf (QF x (Qa "\n")):=fun r hr=>by
 rw [lf1] at hr
 exact NG.mpr (Tj x 10 r hr)
def GL (t:TE)(σ:St)(H:Hp)(zs:List Str):Prop:=∀(H1:Hp)(Q:VK),Same H H1->(∀ c H',Same H1 H'->H' c=some (.lst (zs.map V.str))->Q (.ref c) H')->t σ H1 Q
section
variable {K:Qb}{σ:St}{H:Hp}{i:Nat}{lw:Addr}{ws:List Str}
theorem Zej (h:σ[i]?=some (some (.ref lw)))(e:H lw=some (.lst (ws.map V.str))):GL (XV i) σ H ws:=fun H1 Q s q=>⟨_,h,q lw H1 (Same.refl _) (s _ _ e)⟩
theorem Wy {te:TE}{j:Nat}(h:σ[i]?=some (some (.ref lw)))(e:H lw=some (.lst (ws.map V.str)))(ht:∀ H' R,R (.int (j:Int)) H'->te σ H' R):GL (tSl (ZkE K) (XV i) YR (Zhb te)) σ H (ws.take j):=fun H1 Q s q=>by
 refine ⟨_,h,ht H1 _ ⟨_,rfl,lw,_,rfl,SqL.of (s _ _ e),fun c hc=>?_⟩⟩
 have e1:Xk (ws.map V.str) none (some (j:Int))=(ws.take j).map V.str:=by rw [Vf,map_take]
 rw [e1]
 exact q c _ (Zg hc _) Ze
theorem WB {te:TE}{j:Nat}(h:σ[i]?=some (some (.ref lw)))(e:H lw=some (.lst (ws.map V.str)))(ht:∀ H' R,R (.int (j:Int)) H'->te σ H' R):GL (tSl (ZkE K) (XV i) (Zhb te) YR) σ H (ws.drop j):=fun H1 Q s q=>by
 refine ⟨_,h,ht H1 _ ⟨_,rfl,lw,_,rfl,SqL.of (s _ _ e),fun c hc=>?_⟩⟩
 have e1:Xk (ws.map V.str) (some (j:Int)) none=(ws.drop j).map V.str:=by rw [Zai,Su]
 rw [e1]
 exact q c _ (Zg hc _) Ze
theorem YV {a b:TE}{xs ys:List Str}(ha:GL a σ H xs)(hb:GL b σ H ys)(hl:xs.length+ys.length<=100000):GL (tOp rCat a b) σ H (xs++ys):=fun H1 Q s q=>by
 refine ha H1 _ s fun c1 H2 s2 e1=>hb H2 _ (s.trans s2) fun c2 H3 s3 e2=>?_
 refine ⟨c1,c2,_,_,rfl,rfl,s3 _ _ e1,e2,Zp (show _<=100000 by rw [length_map,length_map];exact hl),fun l hl=>?_⟩
 rw [<- map_append]
 exact q l _ ((s2.trans s3).trans (Zg hl _)) Ze
theorem ZaH {te:TE}{y:Str}(ht:∀ H' R,R (.str y) H'->te σ H' R):GL (ZcL (Xa te Xf)) σ H [y]:=fun H1 Q s q =>
 ht H1 _ ⟨(by show 1<=Qi;decide),fun l hl=>q l _ (Zg hl _) Ze⟩
end
def sA:List Str:=["set","look","back","begin","late","copy","in","pass","weave","setting","task","ins","lat"]
def sB:List Str:=["0","-0","01","-7","'a'","''","'","a","A","abcdefghi","+1","1.5","none","","a b"]
theorem Znt:∀ x∈sA++sB,x.length<=9/\Yd x=0:=fun x hx=>by
 have:=all_eq_true.mp (show (sA++sB).all (fun x=>decide (x.length<=9)&&decide (Yd x=0))=true by decide +kernel) x hx
 simpa using this
section
variable {P:Qm}{w:QC}{K:Qb}{mg:Str->Option Qe}{base:Heap}
def spSb:Sp:=fun vs H Q _=>∃(p:Addr)(n:Nat)(x:Str)(Δ:Rs),vs=[.ref p,.str x]/\Sep ((p,Bx n)::Δ) H/\n<=100000/\x.length<=70000/\∀(y:Str)(H':Hp),y.length<=x.length+1->Yd y<=Yd x+1->Sep ((p,Bx (n+3))::Δ) H'->Q (.str y) H'
abbrev nSb:List Str:=["_law_box_here","_law_text","_law_signs","_law_at","_law_way","_law_sign","_law_ahead","_law_behind","_law_bent_here"]
abbrev ZkF:List Str:=["_law_box_here","_law_text"]
theorem scSb:ZB nSb ZkF (Zl s_l_sign_bent):=⟨rfl,rfl,rfl,by decide +kernel,rfl,by decide +kernel,by decide +kernel⟩
theorem Zjx {f:Addr}{fd:Qq}{k:Nat}(F:Fun K "_law_sign_bent" "_law_sign_bent" s_l_sign_bent f fd)(T:Ya mg)(DT:DTk P w K mg base k):FnOk P w K mg base Yc (k+1) f fd ZkF spSb:=by
 refine F.ok scSb (fun vs H Q E h=>?_) (fun cdv A outer s H vs Q E hr h=>?_)
 ·obtain ⟨p,n,x,Δ,rfl,_⟩:=h;rfl
 obtain ⟨p,n,x,Δ,rfl,S,hn,hx,q⟩:=h
 have hr1:=hr
 refine' ⟨?t,?h,?r⟩
 case h =>
  conv=>arg 2;whnf
  with_reducible refine' (Zf ?h1 (Zf ?h2 (Zf ?h3 (Zf ?h4 (Zh ?h5)))))
  case h1=>exact Zr (i:=2) scSb.nd rfl (Qy rfl) (Zj ZJ Zk Zk)
  case h2=>exact VE (i:=3) (j:=4) (k:=5) rfl scSb.nd rfl rfl rfl (by decide) (by decide) (by decide) rfl rfl rfl (Zb (Zu DT hr1 (Zb (pv 0) (Zb (Zj ZO (Zm ZQ rfl T.len Qu (Zb (pv 1) Za)) Zc) Za))) (Zb (Zu DT hr1 (Zb (pv 0) (Zb Zc Za))) (Zb (ZG UL (pv 2) (Zu DT hr1 (Zb (pv 0) (Zb (Zm ZQ rfl T.len Qu (Zb (pv 2) Za)) Za))) (fun _ _=>rfl)) Za))) rfl
  case h3=>exact Wt (i:=6) (j:=7) rfl scSb.nd rfl rfl (by decide) rfl rfl (Zb (Zs YA (pv 1) Zz (Zv (pv 3))) (Zb (Zs YA (pv 1) (Zv (pv 3)) Zz) Za)) rfl
  case h4=>exact Zr (i:=8) scSb.nd rfl (Qy rfl) (ZH (Zb (Zj ZJ (Zj ZJ (pv 6) (pv 5)) (pv 7)) (Zb (Zj ZJ (pv 6) (Zs YA (pv 7) (Zv Zc) Zz)) (Zb (Zj ZJ (Zj ZJ (pv 6) (pv 5)) (Zs YA (pv 7) (Zv Zc) Zz)) (Zb (Zj ZJ (Zj ZJ (pv 6) (Zs YA (pv 7) Zz (Zv Zc))) (pv 7)) Za)))))
  case h5=>exact Zo (ZG ZR (Zj Yi (pv 8) (ZH (Zb (Zj ZJ (Zj ZJ (pv 6) (Zmr (Zs YA (pv 7) Zz (Zv Zc)))) (Zs YA (pv 7) (Zv Zc) Zz)) Za))) (pv 4) (fun _ _=>rfl))
 refine ⟨_,_,rfl,rfl,(by decide +kernel),?_⟩
 have hSl:((Qa "'\\ \n\t0a-") ++ (Qa "zA9~\"#_.,:=+")).length=20:=by decide +kernel
 generalize (Qa "'\\ \n\t0a-") ++ (Qa "zA9~\"#_.,:=+")=SG at hSl ⊢
 refine ⟨_,rfl,_,rfl,x,rfl,Zp (show _<=100000 by omega),_,_,rfl,rfl,p,_,_,_,rfl,S,by omega,by omega,by omega,fun j H1 a0 a1 S1=>⟨_,rfl,p,_,5,_,rfl,S1,by omega,by decide,by decide,fun way H2 b0 b1 S2=>⟨_,rfl,_,rfl,_,rfl,SG,rfl,Zp (show _<=100000 by omega),p,_,_,_,rfl,S2,by omega,by omega,by omega,fun sg H3 c0 c1 S3=>?_⟩⟩⟩
 obtain ⟨c,hc⟩:∃ c,Xn SG.cps.toList sg=some c:=by
  have hl:sg.toNat < SG.cps.toList.length:=by rw [<- Zq];omega
  exact ⟨_,Zce c0 (getElem?_eq_getElem hl)⟩
 refine ⟨_,_,c,rfl,rfl,Zp (show _<=100000 by omega),hc,_,_,_,rfl,?_⟩
 obtain ⟨j,rfl⟩:∃ j':Nat,j=(j':Int):=⟨j.toNat,by omega⟩
 refine ⟨_,rfl,?_⟩
 dsimp only [YR]
 refine ⟨_,rfl,_,rfl,x,rfl,Zp (show _<=100000 by omega),_,rfl,_,rfl,_,rfl,x,rfl,Zp (show _<=100000 by omega),_,_,rfl,?_⟩
 have hA:=Uu x j
 have hB:=WO x j
 generalize Qs x none (some (j:Int))=A1 at hA ⊢
 generalize Qs x (some (j:Int)) none=B1 at hB ⊢
 have hlen:A1.length+B1.length=x.length:=by rw [Zq,Zq,Zq,hA,hB,<- length_append,take_append_drop]
 have hcl:Yd A1+Yd B1=Yd x:=by unfold Yd;rw [hA,hB,<- count_append,take_append_drop]
 have hs1:(⟨#[c]⟩:Str).length=1:=rfl
 have hsc:Yd (⟨#[c]⟩:Str)<=1:=ZfS _
 generalize (⟨#[c]⟩:Str)=sg1 at hs1 hsc ⊢
 have hd1:(Qs B1 (some 1) none).length<=B1.length:=PB _ _ _
 have hd1c:=Zdf B1 (some 1) none
 have ht1:(Qs B1 none (some 1)).length<=1:=by
  have:=Uu B1 1
  rw [Zq,show (some (1:Int))=some ((1:Nat):Int) from rfl,this,length_take];omega
 have ht1c:=ZfS (Qs B1 none (some 1))
 have h2l:(Qs B1 none (some 2)).length+(Qs B1 (some 2) none).length=B1.length:=by
  have e1:=Uu B1 2;have e2:=WO B1 2
  rw [Zq,Zq,Zq,show (some (2:Int))=some ((2:Nat):Int) from rfl,e1,e2,<- length_append,take_append_drop]
 have h2c:Yd (Qs B1 none (some 2))+Yd (Qs B1 (some 2) none)=Yd B1:=by
  have e1:=Uu B1 2;have e2:=WO B1 2
  unfold Yd
  rw [show (some (2:Int))=some ((2:Nat):Int) from rfl,e1,e2,<- count_append,take_append_drop]
 have hrl:(Zaw (Qs B1 none (some 2))).length=(Qs B1 none (some 2)).length:=by
  show (Qs B1 none (some 2)).cps.toList.reverse.toArray.size=_
  rw [size_toArray,length_reverse,<- Zq]
 have hrc:Yd (Zaw (Qs B1 none (some 2)))=Yd (Qs B1 none (some 2)):=by
  show (Qs B1 none (some 2)).cps.toList.reverse.count 10=_
  rw [List.count_reverse];rfl
 have hsB:B1.length<=sizeLine:=Zp (show _<=100000 by omega)
 have le2:∀ {a b:Str},a.length+b.length<=100000->a.length+b.length<=sizeLine:=fun h=>Zp h
 refine ⟨_,rfl,_,rfl,_,_,rfl,rfl,le2 (by omega),_,rfl,_,_,rfl,rfl,le2 (by rw [Yy];omega),?_⟩
 refine ⟨_,rfl,_,rfl,_,rfl,B1,rfl,hsB,_,_,rfl,rfl,le2 (by omega),?_⟩
 refine ⟨_,rfl,_,rfl,_,_,rfl,rfl,le2 (by omega),_,rfl,_,rfl,B1,rfl,hsB,_,_,rfl,rfl,le2 (by rw [Yy];omega),?_⟩
 refine ⟨_,rfl,_,rfl,?_⟩
 dsimp only [YR]
 refine ⟨_,rfl,B1,rfl,hsB,_,_,rfl,rfl,le2 (by omega),_,rfl,_,_,rfl,rfl,le2 (by rw [Yy];omega),(by show 4<=Qi;decide),fun l hl=>?_⟩
 have s4:=Zg hl (.lst ([A1++sg1++B1,A1++Qs B1 (some 1) none,A1++sg1++Qs B1 (some 1) none,A1++Qs B1 none (some 1)++B1].map V.str))
 have el:upd H3 l (.lst ([A1++sg1++B1,A1++Qs B1 (some 1) none,A1++sg1++Qs B1 (some 1) none,A1++Qs B1 none (some 1)++B1].map V.str)) l=_:=Ze
 change Zah _ _ _ (upd H3 l (.lst ([A1++sg1++B1,A1++Qs B1 (some 1) none,A1++sg1++Qs B1 (some 1) none,A1++Qs B1 none (some 1)++B1].map V.str))) _
 generalize upd H3 l (.lst ([A1++sg1++B1,A1++Qs B1 (some 1) none,A1++sg1++Qs B1 (some 1) none,A1++Qs B1 none (some 1)++B1].map V.str))=H4 at s4 el ⊢
 refine ⟨_,rfl,_,rfl,_,rfl,?_⟩
 dsimp only [YR]
 refine ⟨_,rfl,B1,rfl,hsB,_,rfl,by omega,_,_,rfl,rfl,le2 (by omega),_,rfl,_,rfl,B1,rfl,hsB,_,_,rfl,rfl,le2 (by rw [Yy];omega),(by show 1<=Qi;decide),fun l2 hl2=>?_⟩
 have s5:=Zg hl2 (.lst [.str (A1++Zaw (Qs B1 none (some 2))++Qs B1 (some 2) none)])
 refine ⟨l,l2,_,_,rfl,rfl,s5 _ _ el,Ze,(by show 5<=Qi;decide),fun l3 hl3=>?_⟩
 obtain ⟨z,hz,hze⟩:=WI (f:=V.str) (xs:=[A1++sg1++B1,A1++Qs B1 (some 1) none,A1++sg1++Qs B1 (some 1) none,A1++Qs B1 none (some 1)++B1,A1++Zaw (Qs B1 none (some 2))++Qs B1 (some 2) none]) b0 b1
 refine ⟨_,rfl,l3,_,_,_,rfl,rfl,SqL.of Ze,hze,?_⟩
 have key:z.length<=x.length+1/\Yd z<=Yd x+1:=by
  simp only [mem_cons,not_mem_nil,or_false] at hz
  rcases hz with rfl | rfl | rfl | rfl | rfl<;>(refine ⟨?_,?_⟩<;>simp only [Yy,Vb]<;>omega)
 exact q z _ key.1 key.2 (S3.mono ((s4.trans s5).trans (Zg hl3 _)))
end
section
variable {P:Qm}{w:QC}{K:Qb}{mg:Str->Option Qe}{base:Heap}
def spRb:Sp:=fun vs H Q _=>∃(p:Addr)(n:Nat)(x:Str)(Δ:Rs),vs=[.ref p,.str x]/\Sep ((p,Bx n)::Δ) H/\n<=200000/\x.length<=35000/\Yd x=0/\∀(y:Str)(H':Hp)(N:Nat),y.length<=2 * x.length+20->Yd y=0->N<=n+4->Sep ((p,Bx N)::Δ) H'->Q (.str y) H'
theorem Zoa {m:Int}(h0:0<=m)(h1:m < 2):(PD (Qa " ") (1+m)).length<=2/\Yd (PD (Qa " ") (1+m))=0/\(PD (Qa "\t") (1 + m)).length <= 2 /\ Yd (PD (Qa "\t") (1+m))=0:=by
 have:m=0\/m=1:=by omega
 rcases this with rfl | rfl
 ·exact (by decide +kernel)
 ·exact (by decide +kernel)
abbrev nRb:List Str:=["_law_box_here","_law_row","_law_some","_law_words","_law_way","_law_other","_law_at","_law_more","_law_bent_here"]
abbrev Zki:List Str:=["_law_box_here","_law_row"]
theorem scRb:ZB nRb Zki (Zl s_l_row_bent):=⟨rfl,rfl,rfl,by decide +kernel,rfl,by decide +kernel,by decide +kernel⟩
theorem ZjP {f:Addr}{fd:Qq}{k:Nat}(F:Fun K "_law_row_bent" "_law_row_bent" s_l_row_bent f fd)(T:Ya mg)(DT:DTk P w K mg base k):FnOk P w K mg base Yc (k+1) f fd Zki spRb:=by
 refine F.ok scRb (fun vs H Q E h=>?_) (fun cdv A outer s H vs Q E hr h=>?_)
 ·obtain ⟨p,n,x,Δ,rfl,_⟩:=h;rfl
 obtain ⟨p,n,x,Δ,rfl,S,hn,hx,hlf,q⟩:=h
 have hr1:=hr
 refine' ⟨?t,?h,?r⟩
 case h =>
  conv=>arg 2;whnf
  with_reducible refine' (Zf (Zr (i:=2) ?h1 ?h2 ?h3 (ZH ?h4) ?h5 ?h6) (Zf (Zr (i:=2) ?h7 ?h8 ?h9 (Zj ?h10 ?h11 (ZH ?h12)) ?h13 ?h14) (Zf ?h15 (Zf ?h16 (Zf (ZT ?h17 (Zf ?h18 (Zh ?h19)) ZI) (Zf ?h20 (Zf ?h21 (Zh ?h22))))))))
  case h1=>exact scRb.nd
  case h2=>exact rfl
  case h3=>exact (Qy rfl)
  case h4=>(refine' Vz (vs:=[.str "set",.str "look",.str "back",.str "begin",.str "late",.str "copy",.str "in",.str "pass",.str "weave",.str "setting",.str "task",.str "ins",.str "lat"]) ?zz;case zz=>decide +kernel)
  case h5=>exact rfl
  case h6=>exact (by first | exact .inl rfl | exact .inr rfl)
  case h7=>exact scRb.nd
  case h8=>exact rfl
  case h9=>exact (Qy rfl)
  case h10=>exact Yi
  case h11=>exact pv 2
  case h12=>(refine' Vz (vs:=[.str "0",.str "-0",.str "01",.str "-7",.str "'a'",.str "''",.str "'",.str "a",.str "A",.str "abcdefghi",.str "+1",.str "1.5",.str "none",.str "",.str "a b"]) ?zz;case zz=>decide +kernel)
  case h13=>exact rfl
  case h14=>exact (by first | exact .inl rfl | exact .inr rfl)
  case h15=>exact VE (i:=3) (j:=4) (k:=5) rfl scRb.nd rfl rfl rfl (by decide) (by decide) (by decide) rfl rfl rfl (Zb (ZU Qo QX Gu Wn (pv 1) (Zb Zk Za)) (Zb (Zu DT hr1 (Zb (pv 0) (Zb Zc Za))) (Zb (ZG ZR (pv 2) (Zu DT hr1 (Zb (pv 0) (Zb (Zm ZP rfl T.len Qu (Zb (pv 2) Za)) Za))) (fun _ _=>rfl)) Za))) rfl
  case h16=>exact Zr (i:=6) scRb.nd rfl (Qy rfl) (Zu DT hr1 (Zb (pv 0) (Zb (Zm ZP rfl T.len Qu (Zb (pv 3) Za)) Za)))
  case h17=>exact ZA UG (pv 4) Zc (ZC _)
  case h18=>exact Zr (i:=7) scRb.nd rfl (Qy rfl) (Zj ZO Zc (Zu DT hr1 (Zb (pv 0) (Zb Zc Za))))
  case h19=>exact Zo (ZG ZR (ZH (Zb (Zj ZJ (Zj WA Zk (pv 7)) (pv 1)) (Zb (Zs YA (pv 1) (Zv (pv 7)) Zz) (Zb (Zj ZJ (Zj WA Zk (pv 7)) (ZU Qo JR JS Vq (pv 1) (Zb Zk Za))) Za)))) (Zj Xh (pv 4) Zc) (fun _ _=>rfl))
  case h20=>exact Zr (i:=8) scRb.nd rfl (Qy rfl) (ZH (Zb (Zj Yi (Zs ZX (pv 3) Zz (Zv (pv 6))) (Zs ZX (pv 3) (Zv (Zj ZO (pv 6) Zc)) Zz)) (Zb (Zj Yi (Zs ZX (pv 3) Zz (Zv (Zj ZO (pv 6) Zc))) (Zs ZX (pv 3) (Zv (pv 6)) Zz)) (Zb (Zj Yi (Zj Yi (Zs ZX (pv 3) Zz (Zv (pv 6))) (ZH (Zb (pv 5) Za))) (Zs ZX (pv 3) (Zv (Zj ZO (pv 6) Zc)) Zz)) Za))))
  case h21=>exact Zr (i:=8) scRb.nd rfl (Qy rfl) (Zj Yi (pv 8) (ZH (Zb (Zj Yi (Zj Yi (Zs ZX (pv 3) Zz (Zv (pv 6))) (ZH (Zb (pv 5) Za))) (Zs ZX (pv 3) (Zv (pv 6)) Zz)) (Zb (Zj Yi (pv 3) (ZH (Zb (pv 5) Za))) (Zb (Zj Yi (pv 3) (ZH (Zb Zk Za))) Za)))))
  case h22=>exact Zo (ZU Qo QT QU Xp Zk (Zb (ZG ZR (pv 8) (pv 4) (fun _ _=>rfl)) Za))
 refine ⟨(by decide),fun l1 hl1=>?_⟩
 have S1:Sep ((l1,UU (sA.map V.str))::(p,Bx n)::Δ) _:=S.new hl1 (.lst (sA.map V.str))
 change ZgZ _ _ _ _ (upd H l1 (.lst (sA.map V.str)))
 generalize upd H l1 (.lst (sA.map V.str))=H1 at S1 ⊢
 refine ⟨_,rfl,(by decide),fun D2 hD2=>⟨l1,D2,sA.map V.str,sB.map V.str,rfl,rfl,ZmT S1 hD2,Ze,(by decide),fun l2 hl2=>?_⟩⟩
 have S2:=Zpu (ys:=sB) S1 hD2 hl2
 change Zah _ _ _ (upd (upd H1 D2 (.lst (sB.map V.str))) l2 (.lst (sA.map V.str++sB.map V.str))) _
 generalize upd (upd H1 D2 (.lst (sB.map V.str))) l2 (.lst (sA.map V.str++sB.map V.str))=H2 at S2 ⊢
 have hss:x.length<=sizeLine:=Zp (show _<=100000 by omega)
 have hwt:=Zaj x (s:=Qa " ") (by decide +kernel)
 have hnf:=Zbk hlf
 have hne:=XB x (Qa " ")
 refine ⟨_,rfl,rfl,x,_,rfl,rfl,(by decide +kernel),by omega,fun lw hlw=>?_⟩
 generalize QF x (Qa " ")=ws at hwt hnf hne ⊢
 have hwl:ws.length<=35001:=by unfold wt at hwt;omega
 have hwp:0 < ws.length:=length_pos_iff.mpr hne
 have S3:=S2.new hlw (.lst (ws.map V.str))
 generalize upd H2 lw (.lst (ws.map V.str))=H3 at S3 ⊢
 have hAB:((sA++sB).map V.str).length=28:=by decide
 refine ⟨_,rfl,p,_,9,_,rfl,S3.pull p,by omega,by decide,by decide,fun way H4 a0 a1 S4=>⟨_,rfl,_,rfl,_,rfl,l2,_,rfl,.inl (SqL.of (S4.get l2)),p,_,_,_,rfl,S4,by omega,by rw [hAB];decide,by rw [hAB];decide,fun so H5 b0 b1 S5=>?_⟩⟩
 rw [hAB] at b1
 obtain ⟨ot,hot,hoe⟩:=WI (f:=V.str) (xs:=sA++sB) b0 (show so < ((sA++sB).length:Int) from b1)
 obtain ⟨ho9,hoc⟩:=Znt ot hot
 refine ⟨l2,_,_,_,rfl,rfl,SqL.of (S5.get l2),hoe,_,_,_,rfl,?_⟩
 refine ⟨_,rfl,_,rfl,lw,_,rfl,.inl (SqL.of (S5.get lw)),p,_,_,_,rfl,S5,by omega,by rw [length_map];omega,by rw [length_map];omega,fun at1 H6 c0 c1 S6=>?_⟩
 rw [length_map] at c1
 have elw:H6 lw=some (.lst (ws.map V.str)):=S6.get lw
 have S6:=(S6.drop lw).drop l2
 obtain ⟨at1,rfl⟩:∃ j:Nat,at1=(j:Int):=⟨at1.toNat,by omega⟩
 refine ⟨_,rfl,_,_,rfl,rfl,_,rfl,?_⟩
 by_cases hw5:5 < way
 ·rw [decide_eq_true hw5]
  refine Zx ⟨_,rfl,p,_,2,_,rfl,S6,by omega,by decide,by decide,fun mo H7 d0 d1 S7=>⟨_,_,rfl,rfl,?_⟩⟩
  obtain ⟨m1,m2,m3,m4⟩:=Zoa d0 d1
  have M:∀ {y:Str},y.length<=10->MulOk y (1+mo):=fun h=>ZiG h (by omega) (by omega)
  have hls:=VR x
  have hlc:Yd (QW x (Qa " "))=0:=by
   have e:Yd (QW x (Qa " "))<=Yd x:=by
    unfold Yd;rw [Ww];exact (TY _).count_le _
   omega
  refine ⟨_,rfl,_,_,rfl,rfl,M (by decide +kernel),_,rfl,_,_,rfl,rfl,Zp (show _<=100000 by omega),?_⟩
  refine ⟨_,rfl,_,rfl,_,rfl,x,rfl,hss,?_⟩
  refine ⟨_,rfl,_,_,rfl,rfl,M (by decide +kernel),_,rfl,rfl,x,_,rfl,rfl,by omega,_,_,rfl,rfl,Zp (show _<=100000 by omega),(by show 3<=Qi;decide),fun D hD=>?_⟩
  obtain ⟨z,hz,hze⟩:=WI (f:=V.str) (xs:=[PD (Qa " ") (1+mo)++x,Qs x (some (1+mo)) none,PD (Qa "\t") (1 + mo) ++ QW x (Qa " ")]) (r:=way - 6) (by omega) (by show way - 6 < 3;omega)
  refine ⟨_,rfl,_,_,rfl,rfl,D,_,_,_,rfl,rfl,SqL.of Ze,hze,?_⟩
  have key:z.length<=2 * x.length+20/\Yd z=0:=by
   have h1:=PB x (some (1+mo)) none
   have h2:=Zdf x (some (1+mo)) none
   simp only [mem_cons,not_mem_nil,or_false] at hz
   rcases hz with rfl | rfl | rfl
   ·rw [Yy,Vb];omega
   ·omega
   ·rw [Yy,Vb];omega
  exact q z _ _ key.1 key.2 (by omega) (S7.mono (Zg hD _))
 ·rw [decide_eq_false hw5]
  refine Zw ?_
  have hT:∀ j,(ws.take j).length<=35001:=fun j=>by rw [length_take];omega
  have hD:∀ j,(ws.drop j).length<=35001:=fun j=>by rw [length_drop];omega
  have hTw:=ZfW ws
  have hDw:=Zmd ws
  have v6:∀ (σ:St),σ[6]?=some (some (.int (at1:Int)))->∀ H' (R:VK),R (.int (at1:Int)) H'->XV 6 σ H' R:=fun σ e H' R r=>⟨_,e,r⟩
  have v61:∀ (σ:St),σ[6]?=some (some (.int (at1:Int)))->∀ H' (R:VK),R (.int ((at1+1:Nat):Int)) H'->tOp (rI0 fun i j=>V.int (i+j)) (XV 6) (tC (V.int 1)) σ H' R:=fun σ e H' R r=>⟨_,e,_,_,rfl,rfl,r⟩
  have gO:∀ (σ:St) (H':Hp),σ[5]?=some (some (.str ot))->GL (ZcL (Xa (XV 5) Xf)) σ H' [ot]:=fun σ H' e=>ZaH fun H2 R r=>⟨_,e,r⟩
  refine (YV (Wy rfl elw (v6 _ rfl)) (WB rfl elw (v61 _ rfl)) (by have:=hT at1;have:=hD (at1+1);omega)) H6 _ (Same.refl _) fun c0 H7 s7 e0=>?_
  refine (YV (Wy rfl elw (v61 _ rfl)) (WB rfl elw (v6 _ rfl)) (by have:=hT (at1+1);have:=hD at1;omega)) H7 _ s7 fun c1 H8 s8 e1=>?_
  refine (YV (YV (Wy rfl elw (v6 _ rfl)) (gO _ _ rfl) (by have:=hT at1;rw [length_singleton];omega)) (WB rfl elw (v61 _ rfl)) (by have:=hT at1;have:=hD (at1+1);rw [length_append,length_singleton];omega)) H8 _ (s7.trans s8) fun c2 H9 s9 e2=>?_
  refine ⟨(by show 3<=Qi;decide),fun D1 hD1=>?_⟩
  have s10:=Zg hD1 (.lst [.ref c0,.ref c1,.ref c2])
  have eD1:upd H9 D1 (.lst [.ref c0,.ref c1,.ref c2]) D1=_:=Ze
  have s6a:=((s7.trans s8).trans s9).trans s10
  replace e0:=s10 _ _ (s9 _ _ (s8 _ _ e0))
  replace e1:=s10 _ _ (s9 _ _ e1)
  replace e2:=s10 _ _ e2
  generalize upd H9 D1 (.lst [.ref c0,.ref c1,.ref c2])=H10 at s10 eD1 s6a e0 e1 e2 ⊢
  have elw:=s6a _ _ elw
  refine ⟨_,rfl,?_⟩
  refine (YV (YV (Wy rfl elw (v6 _ rfl)) (gO _ _ rfl) (by have:=hT at1;rw [length_singleton];omega)) (WB rfl elw (v6 _ rfl)) (by have:=hT at1;have:=hD at1;rw [length_append,length_singleton];omega)) H10 _ (Same.refl _) fun c3 H11 s11 e3=>?_
  refine (YV (Zej rfl elw) (gO _ _ rfl) (by rw [length_singleton];omega)) H11 _ s11 fun c4 H12 s12 e4=>?_
  refine (YV (Zej rfl elw) (ZaH (y:=Qa "") fun H2 R r=>r) (by rw [length_singleton];omega)) H12 _ (s11.trans s12) fun c5 H13 s13 e5=>?_
  refine ⟨(by show 3<=Qi;decide),fun D2 hD2=>?_⟩
  have s14:=Zg hD2 (.lst [.ref c3,.ref c4,.ref c5])
  have eD2:upd H13 D2 (.lst [.ref c3,.ref c4,.ref c5]) D2=_:=Ze
  have s6b:=((s11.trans s12).trans s13).trans s14
  replace e3:=s14 _ _ (s13 _ _ (s12 _ _ e3))
  replace e4:=s14 _ _ (s13 _ _ e4)
  replace e5:=s14 _ _ e5
  generalize upd H13 D2 (.lst [.ref c3,.ref c4,.ref c5])=H14 at s14 eD2 s6b e3 e4 e5 ⊢
  refine ⟨D1,D2,_,_,rfl,rfl,s6b _ _ eD1,eD2,(by show 6<=Qi;decide),fun D3 hD3=>?_⟩
  have s15:=Zg hD3 (.lst ([.ref c0,.ref c1,.ref c2]++[.ref c3,.ref c4,.ref c5]))
  obtain ⟨⟨cz,zs⟩,hz,hze⟩:=WI (f:=fun q:Addr×List Str=>V.ref q.1) (xs:=[(c0,ws.take at1++ws.drop (at1+1)),(c1,ws.take (at1+1)++ws.drop at1),(c2,ws.take at1++[ot]++ws.drop (at1+1)),(c3,ws.take at1++[ot]++ws.drop at1),(c4,ws++[ot]),(c5,ws++[Qa ""])]) (r:=way) a0 (by show way < 6;omega)
  have key:H14 cz=some (.lst (zs.map V.str))/\nf zs/\wt zs<=2 * wt ws+10:=by
   have n1:=Vk hoc
   have n2:nf [Qa ""]:=Vk (by decide +kernel)
   have w1:=Vh ot
   have w2:wt [Qa ""]=1:=by decide +kernel
   have t1:=hTw at1;have t2:=hTw (at1+1);have d1:=hDw at1;have d2:=hDw (at1+1)
   simp only [mem_cons,not_mem_nil,or_false,Prod.mk.injEq] at hz
   rcases hz with ⟨rfl,rfl⟩ | ⟨rfl,rfl⟩ | ⟨rfl,rfl⟩ | ⟨rfl,rfl⟩ | ⟨rfl,rfl⟩ | ⟨rfl,rfl⟩
   ·exact ⟨s6b _ _ e0,YF (XL hnf _) (Wh hnf _),by rw [Yq];omega⟩
   ·exact ⟨s6b _ _ e1,YF (XL hnf _) (Wh hnf _),by rw [Yq];omega⟩
   ·exact ⟨s6b _ _ e2,YF (YF (XL hnf _) n1) (Wh hnf _),by rw [Yq,Yq];omega⟩
   ·exact ⟨e3,YF (YF (XL hnf _) n1) (Wh hnf _),by rw [Yq,Yq];omega⟩
   ·exact ⟨e4,YF hnf n1,by rw [Yq];omega⟩
   ·exact ⟨e5,YF hnf n2,by rw [Yq];omega⟩
  obtain ⟨k1,k2,k3⟩:=key
  have hjl:=UA (s:=Qa " ") (by decide +kernel) zs
  refine ⟨rfl,_,rfl,_,rfl,D3,_,_,_,rfl,rfl,SqL.of Ze,hze,Qa " ",cz,zs,rfl,rfl,SqL.of (s15 _ _ k1),?_,?_⟩
  ·rw [show (Qa " ").length=1 by decide +kernel,Tp];show wt zs<=_;omega
  ·exact q _ _ _ (by omega) (UE k2) (by omega) (S6.mono ((s6a.trans s6b).trans s15))
end
theorem ZlI {ws:List Str}{i:Nat}{r:Str}(h:ws[i]?=some r):wt ws=wt (ws.take i)+(r.length+1)+wt (ws.drop (i+1)):=by
 have e:ws.drop i=[r]++ws.drop (i+1):=by
  obtain ⟨h1,h2⟩:=Ql.mp h
  rw [drop_eq_getElem_cons h1,h2];rfl
 have:=ZbS ws i
 rw [e,Yq,Vh] at this;omega
theorem ZaS {α:Type}(f:α->V){xs:List α}{i:Nat}(h:i < xs.length):∃ x,xs[i]?=some x/\Xn (xs.map f) (i:Int)=some (f x) :=
 ⟨xs[i],getElem?_eq_getElem h,ZF (by rw [getElem?_map,getElem?_eq_getElem h];rfl)⟩
section
variable {P:Qm}{w:QC}{K:Qb}{mg:Str->Option Qe}{base:Heap}
def spRs:Sp:=fun vs H Q _=>∃(p a:Addr)(n:Nat)(rows:List Str)(Δ:Rs),vs=[.ref p,.ref a]/\Sep ((p,Bx n)::(a,UU (rows.map V.str))::Δ) H/\n<=100000/\rows≠[]/\rows.length<=1000/\wt rows<=34000/\nf rows/\∀(l:Addr)(ys:List Str)(N:Nat)(H':Hp),Sep ((p,Bx N)::Δ) H'->H' l=some (.lst (ys.map V.str))->N<=n+7->nf ys->ys.length<=rows.length+1->wt ys<=2 * wt rows+25->Q (.ref l) H'
abbrev nRs:List Str:=["_law_box_here","_law_rows_here","_law_way","_law_at","_law_to","_law_row","_law_rest","_law_bent_here"]
abbrev ZkG:List Str:=["_law_box_here","_law_rows_here"]
theorem scRs:ZB nRs ZkG (Zl s_l_rows_bent):=⟨rfl,rfl,rfl,by decide +kernel,rfl,by decide +kernel,by decide +kernel⟩
theorem ZiS {f:Addr}{fd:Qq}{k:Nat}(F:Fun K "_law_rows_bent" "_law_rows_bent" s_l_rows_bent f fd)(T:Ya mg)(DT:DTk P w K mg base k)(DRb:Def P w K mg base k "_law_row_bent" Zki spRb):FnOk P w K mg base Yc (k+1) f fd ZkG spRs:=by
 refine F.ok scRs (fun vs H Q E h=>?_) (fun cdv A outer s H vs Q E hr h=>?_)
 ·obtain ⟨p,a,n,rows,Δ,rfl,_⟩:=h;rfl
 obtain ⟨p,a,n,rows,Δ,rfl,S,hn,hne,hrl,hwt,hnf,q⟩:=h
 have hr1:=hr
 refine' ⟨?t,?h,?r⟩
 case h =>
  conv=>arg 2;whnf
  with_reducible refine' (Zf ?h1 (Zf ?h2 (Zf (ZT ?h3 (Zh ?h4) ZI) (Zf ?h5 (Zh ?h6)))))
  case h1=>exact VE (i:=2) (j:=3) (k:=4) rfl scRs.nd rfl rfl rfl (by decide) (by decide) (by decide) rfl rfl rfl (Zb (Zu DT hr1 (Zb (pv 0) (Zb Zc Za))) (Zb (Zu DT hr1 (Zb (pv 0) (Zb (Zm ZP rfl T.len Qu (Zb (pv 1) Za)) Za))) (Zb (Zu DT hr1 (Zb (pv 0) (Zb (Zj ZO (Zm ZP rfl T.len Qu (Zb (pv 1) Za)) Zc) Za))) Za))) rfl
  case h2=>exact Wt (i:=5) (j:=6) rfl scRs.nd rfl rfl (by decide) rfl rfl (Zb (ZG ZR (pv 1) (pv 3) (fun _ _=>rfl)) (Zb (Zj Yi (Zs ZX (pv 1) Zz (Zv (pv 3))) (Zs ZX (pv 1) (Zv (Zj ZO (pv 3) Zc)) Zz)) Za)) rfl
  case h3=>exact ZA UF (pv 2) Zc (ZC _)
  case h4=>exact Zo (Zj Yi (Zj Yi (Zs ZX (pv 1) Zz (Zv (pv 3))) (ZH (Zb (Zu DRb hr (Zb (pv 0) (Zb (pv 5) Za))) Za))) (Zs ZX (pv 1) (Zv (Zj ZO (pv 3) Zc)) Zz))
  case h5=>exact Zr (i:=7) scRs.nd rfl (Qy rfl) (ZH (Zb (pv 6) (Zb (Zj Yi (Zj Yi (Zs ZX (pv 1) Zz (Zv (pv 3))) (ZH (Zb (pv 5) Za))) (Zs ZX (pv 1) (Zv (pv 3)) Zz)) (Zb (Zj Yi (Zj Yi (Zs ZX (pv 6) Zz (Zv (pv 4))) (ZH (Zb (pv 5) Za))) (Zs ZX (pv 6) (Zv (pv 4)) Zz)) Za))))
  case h6=>exact Zo (ZG ZR (Zj Yi (pv 7) (ZH (Zb (Zj Yi (Zj Yi (Zs ZX (pv 1) Zz (Zv (pv 4))) (ZH (Zb Zk Za))) (Zs ZX (pv 1) (Zv (pv 4)) Zz)) (Zb (Zj Yi (pv 1) (ZH (Zb Zk Za))) Za)))) (Zj Xh (pv 2) Zc) (fun _ _=>rfl))
 have hrp:0 < rows.length:=length_pos_iff.mpr hne
 have hml:(rows.map V.str).length=rows.length:=length_map ..
 refine ⟨_,rfl,p,_,8,_,rfl,S,by omega,by decide,by decide,fun way H1 a0 a1 S1=>⟨_,rfl,_,rfl,a,_,rfl,.inl (SqL.of (S1.get a)),p,_,_,_,rfl,S1,by omega,by rw [hml];omega,by rw [hml];omega,fun at1 H2 b0 b1 S2=>⟨_,rfl,_,rfl,a,_,rfl,.inl (SqL.of (S2.get a)),_,_,rfl,rfl,p,_,_,_,rfl,S2,by omega,by rw [hml];omega,by rw [hml];omega,fun to H3 c0 c1 S3=>⟨_,_,_,rfl,?_⟩⟩⟩⟩
 rw [hml] at b1 c1
 obtain ⟨at1,rfl⟩:∃ j:Nat,at1=(j:Int):=⟨at1.toNat,by omega⟩
 obtain ⟨to,rfl⟩:∃ j:Nat,to=(j:Int):=⟨to.toNat,by omega⟩
 obtain ⟨row,hrow,hre⟩:=ZaS V.str (xs:=rows) (i:=at1) (by omega)
 have hrc:=hnf row (mem_of_getElem? hrow)
 have hwa:=ZlI hrow
 have ea:H3 a=some (.lst (rows.map V.str)):=S3.get a
 have v3:∀ (σ:St),σ[3]?=some (some (.int (at1:Int)))->∀ H' (R:VK),R (.int (at1:Int)) H'->XV 3 σ H' R:=fun σ e H' R r=>⟨_,e,r⟩
 have v31:∀ (σ:St),σ[3]?=some (some (.int (at1:Int)))->∀ H' (R:VK),R (.int ((at1+1:Nat):Int)) H'->tOp (rI0 fun i j=>V.int (i+j)) (XV 3) (tC (V.int 1)) σ H' R:=fun σ e H' R r=>⟨_,e,_,_,rfl,rfl,r⟩
 have v4:∀ (σ:St),σ[4]?=some (some (.int (to:Int)))->∀ H' (R:VK),R (.int (to:Int)) H'->XV 4 σ H' R:=fun σ e H' R r=>⟨_,e,r⟩
 have hT:∀ j,(rows.take j).length<=1000:=fun j=>by rw [length_take];omega
 have hD:∀ j,(rows.drop j).length<=1000:=fun j=>by rw [length_drop];omega
 refine ⟨_,rfl,_,rfl,a,_,_,_,rfl,rfl,SqL.of ea,hre,?_⟩
 refine (YV (Wy rfl ea (v3 _ rfl)) (WB rfl ea (v31 _ rfl)) (by have:=hT at1;have:=hD (at1+1);omega)) H3 _ (Same.refl _) fun cr H4 s4 er=>?_
 refine ⟨_,_,rfl,?_⟩
 have ea4:=s4 _ _ ea
 have S4:=S3.mono s4
 refine ⟨_,rfl,_,_,rfl,rfl,_,rfl,?_⟩
 by_cases hw3:way < 3
 ·rw [decide_eq_true hw3]
  refine Zx ⟨_,rfl,?_⟩
  dsimp only [YR]
  refine ⟨_,rfl,_,rfl,a,_,rfl,SqL.of ea4,fun d0 hd0=>?_⟩
  rw [Vf,<- map_take]
  have S5:=S4.new hd0 (.lst ((rows.take at1).map V.str))
  generalize upd H4 d0 (.lst ((rows.take at1).map V.str))=H5 at S5 ⊢
  refine ⟨_,rfl,_,rfl,p,_,row,_,rfl,S5.pull p,by omega,by omega,hrc,fun y H6 N h1 h2 h3 S6=>⟨(by show 1<=Qi;decide),fun d1 hd1=>?_⟩⟩
  have S7:=S6.new hd1 (.lst [.str y])
  refine ⟨d0,d1,(rows.take at1).map V.str,[V.str y],rfl,rfl,S7.get d0,S7.get d1,Zp (show _<=100000 by have:=hT at1;rw [length_map,length_singleton];omega),fun d2 hd2=>?_⟩
  have S8:=S7.new hd2 (.lst ((rows.take at1).map V.str++[.str y]))
  generalize upd (upd H6 d1 (.lst [.str y])) d2 (.lst ((rows.take at1).map V.str++[.str y]))=H8 at S8 ⊢
  refine ⟨_,rfl,_,rfl,_,_,rfl,rfl,_,rfl,?_⟩
  dsimp only [YR]
  refine ⟨a,rows.map V.str,rfl,SqL.of (S8.get a),fun d3 hd3=>?_⟩
  rw [show (at1:Int)+1=((at1+1:Nat):Int) by omega,Zai,<- Su]
  have S9:=S8.new hd3 (.lst ((rows.drop (at1+1)).map V.str))
  refine ⟨d2,d3,(rows.take at1).map V.str++[V.str y],(rows.drop (at1+1)).map V.str,rfl,rfl,S9.get d2,S9.get d3,Zp (show _<=100000 by have:=hT at1;have:=hD (at1+1);rw [length_append,length_map,length_map,length_singleton];omega),fun d4 hd4=>?_⟩
  have e9:(rows.take at1).map V.str++[V.str y]++(rows.drop (at1+1)).map V.str=(rows.take at1++[y]++rows.drop (at1+1)).map V.str:=by rw [map_append,map_append];rfl
  rw [e9]
  refine q d4 _ N _ ((((((S9.mono (Zg hd4 _)).drop d3).drop d2).drop d1).drop d0).drop a) Ze (by omega) (YF (YF (XL hnf _) (Vk h2)) (Wh hnf _)) ?_ ?_
  ·rw [length_append,length_append,length_take,length_drop,length_singleton];omega
  ·rw [Yq,Yq,Vh];omega
 ·rw [decide_eq_false hw3]
  refine Zw ?_
  have gR:∀ (σ:St) (H':Hp),σ[5]?=some (some (.str row))->GL (ZcL (Xa (XV 5) Xf)) σ H' [row]:=fun σ H' e=>ZaH fun H2 R r=>⟨_,e,r⟩
  have hRl:(rows.take at1++rows.drop (at1+1)).length<=2000:=by have:=hT at1;have:=hD (at1+1);rw [length_append];omega
  refine ⟨_,rfl,?_⟩
  refine (YV (YV (Wy rfl ea4 (v3 _ rfl)) (gR _ _ rfl) (by have:=hT at1;rw [length_singleton];omega)) (WB rfl ea4 (v3 _ rfl)) (by have:=hT at1;have:=hD at1;rw [length_append,length_singleton];omega)) H4 _ (Same.refl _) fun c1 H6 s6 e1=>?_
  refine (YV (YV (Wy rfl er (v4 _ rfl)) (gR _ _ rfl) (by rw [length_take,length_singleton];omega)) (WB rfl er (v4 _ rfl)) (by rw [length_append,length_take,length_drop,length_singleton];omega)) H6 _ s6 fun c2 H7 s7 e2=>?_
  refine ⟨(by show 3<=Qi;decide),fun D1 hD1=>?_⟩
  have s8:=Zg hD1 (.lst [.ref cr,.ref c1,.ref c2])
  have eD1:upd H7 D1 (.lst [.ref cr,.ref c1,.ref c2]) D1=_:=Ze
  have s48:=(s6.trans s7).trans s8
  have e0:=s8 _ _ (s7 _ _ (s6 _ _ er))
  replace e1:=s8 _ _ (s7 _ _ e1)
  replace e2:=s8 _ _ e2
  generalize upd H7 D1 (.lst [.ref cr,.ref c1,.ref c2])=H8 at s8 eD1 s48 e0 e1 e2 ⊢
  have ea8:=s48 _ _ ea4
  refine ⟨_,rfl,?_⟩
  refine (YV (YV (Wy rfl ea8 (v4 _ rfl)) (ZaH (y:=Qa "") fun H2 R r=>r) (by have:=hT to;rw [length_singleton];omega)) (WB rfl ea8 (v4 _ rfl)) (by have:=hT to;have:=hD to;rw [length_append,length_singleton];omega)) H8 _ (Same.refl _) fun c3 H9 s9 e3=>?_
  refine (YV (Zej rfl ea8) (ZaH (y:=Qa "") fun H2 R r=>r) (by rw [length_singleton];omega)) H9 _ s9 fun c4 H10 s10 e4=>?_
  refine ⟨(by show 2<=Qi;decide),fun D2 hD2=>?_⟩
  have s11:=Zg hD2 (.lst [.ref c3,.ref c4])
  have eD2:upd H10 D2 (.lst [.ref c3,.ref c4]) D2=_:=Ze
  have s811:=(s9.trans s10).trans s11
  replace e3:=s11 _ _ (s10 _ _ e3)
  replace e4:=s11 _ _ e4
  generalize upd H10 D2 (.lst [.ref c3,.ref c4])=H11 at s11 eD2 s811 e3 e4 ⊢
  refine ⟨D1,D2,_,_,rfl,rfl,s811 _ _ eD1,eD2,(by show 5<=Qi;decide),fun D3 hD3=>?_⟩
  have s12:=Zg hD3 (.lst ([.ref cr,.ref c1,.ref c2]++[.ref c3,.ref c4]))
  obtain ⟨⟨cz,zs⟩,hz,hze⟩:=WI (f:=fun q:Addr×List Str=>V.ref q.1) (xs:=[(cr,rows.take at1++rows.drop (at1+1)),(c1,rows.take at1++[row]++rows.drop at1),(c2,(rows.take at1++rows.drop (at1+1)).take to++[row]++(rows.take at1++rows.drop (at1+1)).drop to),(c3,rows.take to++[Qa ""]++rows.drop to),(c4,rows++[Qa ""])]) (r:=way - 3) (by omega) (by show way - 3 < 5;omega)
  have key:H11 cz=some (.lst (zs.map V.str))/\nf zs/\zs.length<=rows.length+1/\wt zs<=2 * wt rows+25:=by
   have n1:=Vk hrc
   have n2:nf [Qa ""]:=Vk (by decide +kernel)
   have w1:=Vh row
   have w2:wt [Qa ""]=1:=by decide +kernel
   have d1:=ZbS rows at1;have d2:=ZbS rows to;have d3:=ZbS (rows.take at1++rows.drop (at1+1)) to
   have hR:=YF (XL hnf at1) (Wh hnf (at1+1))
   have l1:(rows.take at1).length=at1:=by rw [length_take];omega
   have l2:=length_drop (i:=at1) (l:=rows)
   have l3:=length_drop (i:=at1+1) (l:=rows)
   have l4:=length_take (i:=to) (l:=rows)
   have l5:=length_drop (i:=to) (l:=rows)
   simp only [mem_cons,not_mem_nil,or_false,Prod.mk.injEq] at hz
   rcases hz with ⟨rfl,rfl⟩ | ⟨rfl,rfl⟩ | ⟨rfl,rfl⟩ | ⟨rfl,rfl⟩ | ⟨rfl,rfl⟩
   ·exact ⟨s811 _ _ e0,hR,by rw [length_append];omega,by rw [Yq];omega⟩
   ·exact ⟨s811 _ _ e1,YF (YF (XL hnf _) n1) (Wh hnf _),by rw [length_append,length_append,length_singleton];omega,by rw [Yq,Yq];omega⟩
   ·refine ⟨s811 _ _ e2,YF (YF (XL hR _) n1) (Wh hR _),?_,?_⟩
    ·rw [length_append,length_append,length_singleton,length_take,length_drop,length_append];omega
    ·rw [Yq] at d3
     rw [Yq,Yq];omega
   ·exact ⟨e3,YF (YF (XL hnf _) n2) (Wh hnf _),by rw [length_append,length_append,length_singleton];omega,by rw [Yq,Yq];omega⟩
   ·exact ⟨e4,YF hnf n2,by rw [length_append,length_singleton];omega,by rw [Yq];omega⟩
  obtain ⟨k1,k2,k3,k4⟩:=key
  refine ⟨_,rfl,_,_,rfl,rfl,D3,_,_,_,rfl,rfl,SqL.of Ze,hze,?_⟩
  exact q cz zs _ _ ((S4.mono ((s48.trans s811).trans s12)).drop a) (s12 _ _ k1) (by omega) k2 k3 k4
end
end K69
namespace L2
open PySem PySem.Spec PyProof.Rows
section
variable {P:Qm}{w:QC}{K:Qb}{mg:Str->Option Qe}{base:Heap}{k:Nat}{f:Addr}{fd:Qq}{ps:List Str}{sp sp':Sp}
end
end L2
namespace K69
open PySem L2
theorem Zft (xs:List V):Xk xs none (some (-1))=xs.dropLast:=by
 unfold Xk
 rw [HT.sIx_none,drop_zero,Pe,SX]
 congr 1
 show (if (-1:Int) < 0 then (-1+(xs.length:Int)).toNat else min (-1:Int).toNat xs.length)=_
 rw [if_pos (by decide)];omega
theorem ZaF (ws:List Str):ws.dropLast.map V.str=(ws.map V.str).dropLast:=by rw [Pe,Pe,map_take,length_map]
theorem ZlY {y:Str}:∀{ws:List Str},0 < ws.countP (fun z=>decide (z=y))->y∈ws:=fun h=>by
 obtain ⟨a,h1,h2⟩:=List.countP_pos_iff.mp h
 have:=of_decide_eq_true h2
 subst this;exact h1
section
variable {P:Qm}{w:QC}{K:Qb}{mg:Str->Option Qe}{base:Heap}
def spOp:Sp:=fun vs H Q _=>∃(p:Addr)(n:Nat)(x:Str)(Δ:Rs),vs=[.ref p,.str x]/\Sep ((p,Bx n)::Δ) H/\n<=100000/\x.length<=30000/\Yd x<=500/\∀(y:Str)(H':Hp)(N:Nat),y.length<=2 * x.length+60->Yd y<=Yd x+2->N<=n+3->Sep ((p,Bx N)::Δ) H'->Q (.str y) H'
abbrev nOp:List Str:=["_law_box_here","_law_text","_law_rows_here","_law_at","_law_word","_law_words","_law_row"]
abbrev Zlj:List Str:=["_law_box_here","_law_text"]
theorem scOp:ZB nOp Zlj (Zl s_l_opened):=⟨rfl,rfl,rfl,by decide +kernel,rfl,by decide +kernel,by decide +kernel⟩
theorem Ziw {f:Addr}{fd:Qq}{k:Nat}(F:Fun K "_law_opened" "_law_opened" s_l_opened f fd)(T:Ya mg)(DT:DTk P w K mg base k):FnOk P w K mg base Yc (k+1) f fd Zlj spOp:=by
 refine F.ok scOp (fun vs H Q E h=>?_) (fun cdv A outer s H vs Q E hr h=>?_)
 ·obtain ⟨p,n,x,Δ,rfl,_⟩:=h;rfl
 obtain ⟨p,n,x,Δ,rfl,S,hn,hx,hcx,q⟩:=h
 have hr1:=hr
 refine' ⟨?t,?h,?r⟩
 case h =>
  conv=>arg 2;whnf
  with_reducible refine' (Zf ?h1 (Zf (ZT ?h2 (Zh ?h3) ZI) (Zf ?h4 (Zf ?h5 (Xq (ZT ?h6 (Zh ?h7) (Zh ?h8)) (Zh ?h9))))))
  case h1=>exact Zr (i:=2) scOp.nd rfl (Qy rfl) (ZU Qo QX Gu Wn (pv 1) (Zb Zk Za))
  case h2=>exact ZA UF (Zm ZP rfl T.len Qu (Zb (pv 2) Za)) Zc (ZC _)
  case h3=>exact Zo (pv 1)
  case h4=>exact Wt (i:=3) (j:=4) rfl scOp.nd rfl rfl (by decide) rfl rfl (Zb (Zu DT hr1 (Zb (pv 0) (Zb (Zj Xh (Zm ZP rfl T.len Qu (Zb (pv 2) Za)) Zc) Za))) (Zb (ZG ZR (ZH (Zb Zk (Zb Zk (Zb Zk Za)))) (Zu DT hr1 (Zb (pv 0) (Zb Zc Za))) (fun _ _=>rfl)) Za)) rfl
  case h5=>exact Zr (i:=5) scOp.nd rfl (Qy rfl) (ZU Qo QX Gu Wn (ZG ZR (pv 2) (pv 3) (fun _ _=>rfl)) (Zb Zk Za))
  case h6=>exact PW.pt (Vg (ZA UG (ZU QG Oc PySem.F.type_list_count Zir (pv 5) (Zb Zk Za)) Zc (ZC _)) (UC (ZA Xb (Zu DT hr1 (Zb (pv 0) (Zb Zc Za))) Zc (ZC _))))
  case h7=>exact Zr (i:=6) scOp.nd rfl (Qy rfl) (ZU Qo QT QU Xp Zk (Zb (Zj Yi (Zs ZX (pv 5) Zz (Zv (Zj ZO (ZU QG To Ob Zda (pv 5) (Zb Zk Za)) Zc))) (ZH (Zb (Zj ZJ (Zj ZJ Zk (pv 4)) Zk) (Zb (ZG ZR (pv 5) (Vu UM Zc) (fun _ _=>rfl)) Za)))) Za))
  case h8=>exact Zr (i:=6) scOp.nd rfl (Qy rfl) (ZU Qo QT QU Xp Zk (Zb (Zj Yi (Zs ZX (pv 5) Zz (Zv (Vu UM Zc))) (ZH (Zb (pv 4) Za))) Za))
  case h9=>exact Zo (ZU Qo QT QU Xp Zk (Zb (Zj Yi (Zj Yi (Zs ZX (pv 2) Zz (Zv (pv 3))) (ZH (Zb (pv 6) (Zb (Zj ZJ Zk (ZG ZR (pv 2) (Zj ZO (pv 3) Zc) (fun _ _=>rfl))) Za)))) (Zs ZX (pv 2) (Zv (Zj ZO (pv 3) Zc)) Zz)) Za))
 try dsimp only [cxK0,cxK1]
 have hsr:=VO x
 have hwt:=Zaj x (s:=Qa "\n") (by decide +kernel)
 have hnf:=Zbi x
 refine ⟨_,rfl,rfl,x,_,rfl,rfl,(by decide +kernel),by omega,fun l hl=>?_⟩
 generalize QF x (Qa "\n")=rows at hsr hwt hnf ⊢
 have hml:(rows.map V.str).length=rows.length:=length_map ..
 have S1:=S.new hl (.lst (rows.map V.str))
 generalize upd H l (.lst (rows.map V.str))=H1 at S1 ⊢
 refine ⟨_,rfl,l,_,rfl,.inl (SqL.of (S1.get l)),_,_,rfl,rfl,_,rfl,?_⟩
 rw [hml]
 by_cases hr2:rows.length < 2
 ·rw [decide_eq_true (show (rows.length:Int) < 2 by omega)]
  exact Zx ⟨_,rfl,q x _ _ (by omega) (by omega) (by omega) (S1.drop l)⟩
 rw [decide_eq_false (show ¬ (rows.length:Int) < 2 by omega)]
 refine Zw ⟨_,rfl,_,rfl,l,_,rfl,.inl (SqL.of (S1.get l)),_,_,rfl,rfl,p,_,_,_,rfl,S1.pull p,by omega,by rw [hml];omega,by rw [hml];omega,fun at1 H2 a0 a1 S2=>?_⟩
 rw [hml] at a1
 obtain ⟨at1,rfl⟩:∃ j:Nat,at1=(j:Int):=⟨at1.toNat,by omega⟩
 refine ⟨(by show 3<=Qi;decide),fun D hD=>?_⟩
 have S3:Sep ((D,UU ((["begin","late","in"]:List Str).map V.str))::_) _:=S2.new hD (.lst ((["begin","late","in"]:List Str).map V.str))
 refine ⟨_,rfl,p,_,3,_,rfl,S3.pull p,by omega,by decide,by decide,fun wi H4 b0 b1 S4=>?_⟩
 obtain ⟨wd,hwm,hwe⟩:=WI (f:=V.str) (xs:=(["begin","late","in"]:List Str)) b0 b1
 have hwd:wd.length<=5/\Yd wd=0:=by
  have:=all_eq_true.mp (show (["begin","late","in"]:List Str).all (fun x=>decide (x.length<=5)&&decide (Yd x=0))=true by decide +kernel) wd hwm
  simpa using this
 obtain ⟨hw5,hwc⟩:=hwd
 refine ⟨D,_,_,_,rfl,rfl,SqL.of (S4.get D),hwe,_,_,rfl,?_⟩
 have S4:=S4.drop D
 obtain ⟨row,hrow,hre⟩:=ZaS V.str (xs:=rows) (i:=at1) (by omega)
 obtain ⟨nxt,hnxt,hne⟩:=ZaS V.str (xs:=rows) (i:=at1+1) (by omega)
 have hrc:=hnf row (mem_of_getElem? hrow)
 have hnc:=hnf nxt (mem_of_getElem? hnxt)
 have hwa:=ZlI hrow
 have hwb:wt (rows.drop (at1+1))=(nxt.length+1)+wt (rows.drop (at1+2)):=by
  have e:rows.drop (at1+1)=[nxt]++rows.drop (at1+2):=by
   obtain ⟨h1,h2⟩:=Ql.mp hnxt
   rw [drop_eq_getElem_cons h1,h2];rfl
  rw [e,Yq,Vh]
 refine ⟨_,rfl,_,rfl,l,_,_,_,rfl,rfl,SqL.of (S4.get l),hre,rfl,row,_,rfl,rfl,(by decide +kernel),by omega,fun lw hlw=>?_⟩
 have hww:=Zaj row (s:=Qa " ") (by decide +kernel)
 have hwn:=Zbk hrc
 have hw0:=XB row (Qa " ")
 generalize QF row (Qa " ")=ws at hww hwn hw0 ⊢
 have hwl:ws.length<=35001:=by unfold wt at hww;omega
 have hwp:0 < ws.length:=length_pos_iff.mpr hw0
 have S5:=S4.new hlw (.lst (ws.map V.str))
 generalize upd H4 lw (.lst (ws.map V.str))=H5 at S5 ⊢
 refine ⟨fun σ H'=>∃ (y:Str) (N:Nat),σ=[some (.ref p),some (.str x),some (.ref l),some (.int (at1:Int)),some (.str wd),some (.ref lw),some (.str y)]/\y.length<=2 * row.length+30/\Yd y=0/\N<=n+3/\Sep ((p,Bx N)::(l,UU (rows.map V.str))::Δ) H',?_,?_⟩
 ·refine ⟨_,rfl,.inl ⟨rfl,_,SqL.of (S5.get lw)⟩,lw,ws,_,rfl,rfl,SqL.of (S5.get lw),_,_,rfl,rfl,_,rfl,?_⟩
  by_cases hc:0 < ws.countP (fun z=>decide (z=Qa "set"))
  ·rw [decide_eq_true (show (0:Int) < ((ws.countP (fun z=>decide (z=Qa "set")):Nat):Int) by omega)]
   refine Zx ⟨_,rfl,p,_,2,_,rfl,S5.pull p,by omega,by decide,by decide,fun r2 H6 c0 c1 S6=>⟨rfl,_,rfl,?_⟩⟩
   by_cases h0:r2=0
   ·subst h0
    rw [decide_eq_true (show V.int 0=V.int 0 from rfl)]
    refine Zx ⟨rfl,_,rfl,?_⟩
    dsimp only [YR]
    refine ⟨_,rfl,.inl ⟨rfl,_,SqL.of (S6.get lw)⟩,lw,ws,_,rfl,rfl,SqL.of (S6.get lw),ZlY hc,by omega,_,_,rfl,rfl,_,rfl,lw,_,rfl,SqL.of (S6.get lw),fun d0 hd0=>?_⟩
    rw [show ((ws.idxOf (Qa "set"):Nat):Int)+2=((ws.idxOf (Qa "set")+2:Nat):Int) by omega,Vf,<- map_take]
    generalize ws.idxOf (Qa "set")+2=jj
    have T1:=S6.new hd0 (.lst ((ws.take jj).map V.str))
    obtain ⟨lst,hlst,hle⟩:=ZaS V.str (xs:=ws) (i:=ws.length - 1) (by omega)
    have hlm:=mem_of_getElem? hlst
    have hll:lst.length<=row.length:=by have:=Zcx hlm;unfold wt at hww;omega
    have hlf:Xn (ws.map V.str) (-1)=some (.str lst):=Wz (n:=ws.length - 1) (by rw [length_map];omega) (by rw [getElem?_map,hlst];rfl)
    have hx1:(Qa "'x ").length=3:=by decide +kernel
    have hx2:(Qa " y'").length=3:=by decide +kernel
    refine ⟨_,rfl,_,_,rfl,rfl,Zp (show _<=1000 by omega),_,_,rfl,rfl,Zp (show _<=1000 by rw [Yy];omega),_,rfl,_,rfl,lw,_,_,_,rfl,rfl,SqL.of (T1.get lw),hlf,(by show 2<=Qi;decide),fun d1 hd1=>?_⟩
    have T2:Sep ((d1,UU ([Qa "'x "++wd++Qa " y'",lst].map V.str))::_) _:=T1.new hd1 (.lst ([Qa "'x "++wd++Qa " y'",lst].map V.str))
    refine ⟨d0,d1,(ws.take jj).map V.str,[Qa "'x "++wd++Qa " y'",lst].map V.str,rfl,rfl,T2.get d0,T2.get d1,Zp (show _<=100000 by rw [length_map,length_take];show min jj ws.length+2<=_;omega),fun d2 hd2=>?_⟩
    rw [<- map_append]
    have T3:=T2.new hd2 (.lst ((ws.take jj++[Qa "'x "++wd++Qa " y'",lst]).map V.str))
    have hw2:wt (ws.take jj++[Qa "'x "++wd++Qa " y'",lst])<=2 * row.length+25:=by
     have h1:=ZfW ws jj
     have h2:wt [Qa "'x "++wd++Qa " y'",lst]=(Qa "'x "++wd++Qa " y'").length+lst.length+2:=by unfold wt;simp
     rw [Yq,h2,Yy,Yy]
     omega
    have hnn:nf (ws.take jj++[Qa "'x "++wd++Qa " y'",lst]):=by
     refine YF (XL hwn _) fun r hr=>?_
     rcases mem_cons.mp hr with rfl | hr
     ·rw [Vb,Vb,hwc,show Yd (Qa "'x ")=0 by decide +kernel,show Yd (Qa " y'")=0 by decide +kernel]
     ·rw [mem_singleton.mp hr];exact hwn lst hlm
    have hjl:=UA (s:=Qa " ") (by decide +kernel) (ws.take jj++[Qa "'x "++wd++Qa " y'",lst])
    refine ⟨Qa " ",d2,_,rfl,rfl,SqL.of (T3.get d2),?_,?_⟩
    ·rw [show (Qa " ").length=1 by decide +kernel,Tp];show wt _<=_;omega
    ·exact ⟨_,n+1+1+1,rfl,by omega,UE hnn,by omega,((((T3.drop d2).drop d1).drop d0).drop lw).pull p⟩
   ·rw [decide_eq_false (show ¬ V.int r2=V.int 0 from fun z=>h0 (by injection z))]
    refine Zw ?_
    refine ⟨rfl,_,rfl,?_⟩
    dsimp only [YR]
    refine ⟨_,rfl,_,rfl,lw,_,rfl,SqL.of (S6.get lw),fun d0 hd0=>?_⟩
    rw [Zft,<- ZaF]
    have T1:=S6.new hd0 (.lst (ws.dropLast.map V.str))
    refine ⟨_,rfl,(by show 1<=Qi;decide),fun d1 hd1=>?_⟩
    have T2:=T1.new hd1 (.lst [.str wd])
    refine ⟨d0,d1,ws.dropLast.map V.str,[V.str wd],rfl,rfl,T2.get d0,T2.get d1,Zp (show _<=100000 by rw [length_map,SE,length_singleton];omega),fun d2 hd2=>?_⟩
    have e2:ws.dropLast.map V.str++[V.str wd]=(ws.dropLast++[wd]).map V.str:=by rw [map_append];rfl
    rw [e2]
    have T3:=T2.new hd2 (.lst ((ws.dropLast++[wd]).map V.str))
    have hw2:wt (ws.dropLast++[wd])<=row.length+10:=by
     have:=Zcq (OJ ws)
     rw [Yq,Vh];omega
    have hjl:=UA (s:=Qa " ") (by decide +kernel) (ws.dropLast++[wd])
    refine ⟨Qa " ",d2,ws.dropLast++[wd],rfl,rfl,SqL.of (T3.get d2),?_,?_⟩
    ·rw [show (Qa " ").length=1 by decide +kernel,Tp];show wt _<=_;omega
    ·exact ⟨_,n+1+1+1,rfl,by omega,UE (YF (fun r hr=>hwn r (OY _ hr)) (Vk hwc)),by omega,((((T3.drop d2).drop d1).drop d0).drop lw).pull p⟩
  ·rw [decide_eq_false (show ¬ (0:Int) < ((ws.countP (fun z=>decide (z=Qa "set")):Nat):Int) by omega)]
   refine Zw (Zw ?_)
   ·skip
    refine ⟨rfl,_,rfl,?_⟩
    dsimp only [YR]
    refine ⟨_,rfl,_,rfl,lw,_,rfl,SqL.of (S5.get lw),fun d0 hd0=>?_⟩
    rw [Zft,<- ZaF]
    have T1:=S5.new hd0 (.lst (ws.dropLast.map V.str))
    refine ⟨_,rfl,(by show 1<=Qi;decide),fun d1 hd1=>?_⟩
    have T2:=T1.new hd1 (.lst [.str wd])
    refine ⟨d0,d1,ws.dropLast.map V.str,[V.str wd],rfl,rfl,T2.get d0,T2.get d1,Zp (show _<=100000 by rw [length_map,SE,length_singleton];omega),fun d2 hd2=>?_⟩
    have e2:ws.dropLast.map V.str++[V.str wd]=(ws.dropLast++[wd]).map V.str:=by rw [map_append];rfl
    rw [e2]
    have T3:=T2.new hd2 (.lst ((ws.dropLast++[wd]).map V.str))
    have hw2:wt (ws.dropLast++[wd])<=row.length+10:=by
     have:=Zcq (OJ ws)
     rw [Yq,Vh];omega
    have hjl:=UA (s:=Qa " ") (by decide +kernel) (ws.dropLast++[wd])
    refine ⟨Qa " ",d2,ws.dropLast++[wd],rfl,rfl,SqL.of (T3.get d2),?_,?_⟩
    ·rw [show (Qa " ").length=1 by decide +kernel,Tp];show wt _<=_;omega
    ·exact ⟨_,n+1+1,rfl,by omega,UE (YF (fun r hr=>hwn r (OY _ hr)) (Vk hwc)),by omega,((((T3.drop d2).drop d1).drop d0).drop lw).pull p⟩
 ·rintro σ H6 ⟨y,N,rfl,hyl,hyc,hN,S6⟩
  have h2b:(Qa "  ").length=2:=by decide +kernel
  have h2c:Yd (Qa "  ")=0:=by decide +kernel
  have el:H6 l=some (.lst (rows.map V.str)):=S6.get l
  refine ⟨rfl,?_⟩
  refine (YV (YV (Wy (j:=at1) rfl el (fun H' R r=>⟨_,rfl,r⟩)) (xs:=rows.take at1) (ys:=[y,Qa "  "++nxt]) (fun H7 R s7 r=>?_) (by rw [length_take];show _+2<=_;omega)) (WB (j:=at1+2) rfl el (fun H' R r=>⟨_,rfl,_,_,rfl,rfl,r⟩)) (by rw [length_append,length_take,length_drop];show min at1 rows.length+2+_<=_;omega)) H6 _ (Same.refl _) fun c H7 s7 ec=>?_
  ·refine ⟨_,rfl,_,rfl,_,rfl,_,_,rfl,rfl,l,_,_,_,rfl,rfl,SqL.of (s7 _ _ el),hne,_,_,rfl,rfl,Zp (show _<=100000 by omega),(by show 2<=Qi;decide),fun d hd=>r d _ (Zg hd _) Ze⟩
  ·have hzz:wt (rows.take at1++[y,Qa "  "++nxt]++rows.drop (at1+2))<=2 * x.length+50:=by
    have h2:wt [y,Qa "  "++nxt]=y.length+(2+nxt.length)+2:=by unfold wt;simp [Yy,h2b]
    rw [Yq,Yq,h2];omega
   have hnn:nf (rows.take at1++[y,Qa "  "++nxt]++rows.drop (at1+2)):=by
    refine YF (YF (XL hnf _) fun r hr=>?_) (Wh hnf _)
    rcases mem_cons.mp hr with rfl | hr
    ·exact hyc
    ·rw [mem_singleton.mp hr,Vb,h2c,hnc]
   have hjl:=UA (s:=Qa "\n") (by decide +kernel) (rows.take at1 ++ [y, Qa "  "++nxt]++rows.drop (at1+2))
   have hjc:=Vy hnn
   have hll:(rows.take at1++[y,Qa "  "++nxt]++rows.drop (at1+2)).length=rows.length:=by rw [length_append,length_append,length_take,length_drop];show min at1 rows.length+2+_=_;omega
   rw [hll] at hjc
   refine ⟨Qa "\n",c,_,rfl,rfl,SqL.of ec,?_,?_⟩
   ·rw [show (Qa "\n").length=1 by decide +kernel,Tp];show wt _<=_;omega
   ·exact q _ _ _ (by omega) (by omega) hN ((S6.mono s7).drop l)
end
section
variable {P:Qm}{w:QC}{K:Qb}{mg:Str->Option Qe}{base:Heap}
abbrev nNm:List Str:=["_law_box_here","_law_many","_law_letters","_law_size","_law_stem","_law_first","_law_step_here","_law_at","_law_found","_law_k","_law_one","_law_other"]
abbrev pnNm:List Str:=["_law_box_here","_law_many"]
theorem scNm:ZB nNm pnNm (Zl s_l_names):=⟨rfl,rfl,rfl,by decide +kernel,rfl,by decide +kernel,by decide +kernel⟩
theorem Zju {f:Addr}{fd:Qq}(F:Fun K "_law_names" "_law_names" s_l_names f fd)(T:Ya mg)(DT:DTk P w K mg base 1):FnOk P w K mg base Yc 2 f fd pnNm Zes:=by
 refine F.ok scNm (fun vs H Q E h=>?_) (fun cdv A outer s H vs Q E hr h=>?_)
 ·obtain ⟨p,n,many,Δ,rfl,_⟩:=h;rfl
 obtain ⟨p,n,many,Δ,rfl,S,hn,h0,h1,q⟩:=h
 have hr1:=hr
 refine' ⟨?t,?h,?r⟩
 case h =>
  conv=>arg 2;whnf
  with_reducible refine' (Zf ?h1 (Zf ?h2 (Zf ?h3 (Zf ?h4 (Zf (XX ?h5 ?h6 ?h7 ?h8 (Zf ?h9 (Zh ?h10)) ?h11) (Zh ?h12))))))
  case h1=>exact Uk (ZV (Zb Zk (Zb (Zj ZO Zc (Zu DT hr1 (Zb (pv 0) (Zb Zc Za)))) Za))) (Wb rfl (Ye (ZM (i:=2) scNm.nd rfl (Rn rfl)) (Ye (ZM (i:=3) scNm.nd rfl (Qy rfl)) Xw)))
  case h2=>exact Zr (i:=4) scNm.nd rfl (Qy rfl) (ZU Qo QT QU Xp Zk (Zb (XM (CompOk.of nNm s_l_names rfl rfl (by decide +kernel)) rfl (Ws rfl T.range (Zb (Zj Xh (pv 3) Zc) Za))  (fun _ _ _ _ _=>ZG UL (pv 2) (Zu DT hr1 (Zb (pv 0) (Zb Zc Za))) (fun _ _=>rfl))) Za))
  case h3=>exact VE (i:=5) (j:=6) (k:=7) rfl scNm.nd rfl rfl rfl (by decide) (by decide) (by decide) rfl rfl rfl (Zb (Zu DT hr1 (Zb (pv 0) (Zb Zc Za))) (Zb (ZG ZR (ZH (Zb Zc (Zb Zc (Zb Zc (Zb Zc Za))))) (Zu DT hr1 (Zb (pv 0) (Zb Zc Za))) (fun _ _=>rfl)) (Zb (Zu DT hr1 (Zb (pv 0) (Zb (Zj Xh (pv 3) Zc) Za))) Za))) rfl
  case h4=>exact Zr (i:=8) scNm.nd rfl (Qy rfl) (ZH Za)
  case h5=>exact Ga
  case h6=>exact rfl
  case h7=>exact Ws rfl T.range (Zb (pv 1) Za)
  case h8=>exact ZM (i:=9) scNm.nd rfl (Qy rfl)
  case h9=>exact Uk (Zm Zfi rfl T.divmod (by decide +kernel) (Zb (Zj WE (Zj ZO (pv 5) (Zj UO (pv 6) (pv 9))) Zc) (Zb Zc Za))) (Wb rfl (Ye (ZM (i:=10) scNm.nd rfl (Qy rfl)) (Ye (ZM (i:=11) scNm.nd rfl (Qy rfl)) Xw)))
  case h10=>exact YW (ZU QG QR QS YG (pv 8) (Zb (Zj ZJ (Zj ZJ (Zj ZJ (Zs YA (pv 4) Zz (Zv (pv 7))) (ZG UL (pv 2) (pv 10) (fun _ _=>rfl))) (ZG UL (pv 2) (pv 11) (fun _ _=>rfl))) (Zs YA (pv 4) (Zv (pv 7)) Zz)) Za))
  case h11=>exact fun _=>rfl
  case h12=>exact Zo (pv 8)
 refine ⟨_,rfl,p,_,7,_,rfl,S,by omega,by decide,by decide,fun r1 H1 a0 a1 S1=>⟨_,_,rfl,rfl,(by show 2<=Qi;decide),fun t ht=>⟨t,_,rfl,SqT.of Ze,rfl,_,_,rfl,_,_,rfl,rfl,?_⟩⟩⟩
 generalize hE:upd H1 t _=H2
 have S2:=(S1.newE ht hE).tail
 clear hE
 refine ⟨rfl,_,rfl,_,_,rfl,rfl,_,rfl,by omega,by omega,fun D hD=>?_⟩
 have e1:(2+r1 - 2).toNat=r1.toNat:=by omega
 rw [e1]
 refine Zbg (Zp (show r1.toNat<=1000 by omega)) S2 hD (fun i ys Δ'=>∃ zs:List Str,ys=zs.map V.str/\(∀ z∈zs,∃ c,z=⟨#[c]⟩/\US c=true)/\Δ'=(p,Bx (n+1+i))::Δ) ⟨[],rfl,(fun _ h=>nomatch h),rfl⟩ ?_ ?_
 ·rintro i ys Δ' H' hi hl ⟨zs,rfl,hz,rfl⟩ S'
  refine ⟨_,rfl,_,rfl,p,_,26,_,rfl,S'.pull p,by omega,by decide,by decide,fun r3 H3 b0 b1 S3=>?_⟩
  obtain ⟨c,hc,hcl⟩:=ZcJ (x:=a26) ZcB b0 (by rw [UZ];exact b1)
  refine ⟨a26,r3,c,rfl,rfl,by rw [UZ];decide,hc,_,⟨zs++[⟨#[c]⟩],by rw [map_append];rfl,?_,rfl⟩,S3.pull D⟩
  intro z hz'
  rcases mem_append.mp hz' with h | h
  ·exact hz z h
  ·rw [mem_singleton.mp h];exact ⟨c,rfl,hcl⟩
 rintro ys Δ' H3 ⟨zs,rfl,hz,rfl⟩ hl S3
 rw [length_map] at hl
 obtain ⟨g1,g2,g3⟩:=Zia hz
 refine ⟨_,D,zs,rfl,rfl,SqL.of (S3.get D),by omega,?_⟩
 have S4:=S3.tail
 generalize QM (Qa "") zs=stem at *
 refine ⟨_,rfl,p,_,676,_,rfl,S4,by omega,by decide,by decide,fun r5 H5 b0 b1 S5=>⟨(by show 4<=Qi;decide),fun l hl4=>?_⟩⟩
 generalize hE:upd H5 l _=H6
 have S6:=S5.newE hl4 hE
 clear hE
 refine ⟨_,rfl,p,_,4,_,rfl,S6.pull p,by omega,by decide,by decide,fun r7 H7 c0 c1 S7=>?_⟩
 obtain ⟨sv,hsm,hsv⟩:=ZlO (xs:=[.int 1,.int 27,.int 5,.int 251]) c0 c1
 obtain ⟨stp,rfl,hst,hst4⟩:∃ z:Int,sv=.int z/\(0<=z/\z<=251)/\(z=1\/z=27\/z=5\/z=251):=by
  simp only [mem_cons,not_mem_nil,or_false] at hsm
  rcases hsm with rfl | rfl | rfl | rfl<;>exact ⟨_,rfl,⟨by decide,by decide⟩,by decide⟩
 refine ⟨l,_,_,_,rfl,rfl,SqL.of (S7.get l),hsv,?_⟩
 have S8:=S7.drop l
 refine ⟨_,rfl,_,rfl,_,_,rfl,rfl,p,_,_,_,rfl,S8,by omega,by omega,by omega,fun r9 H9 d0 d1 S10=>⟨_,_,_,rfl,?_⟩⟩
 refine ⟨(by show 0<=Qi;decide),fun fl hfl=>?_⟩
 generalize hE:upd H9 fl _=H11
 have S11:=S10.newE hfl hE
 clear hE
 refine ⟨_,rfl,many,rfl,by omega,by omega,?_⟩
 refine Vr (fun i σ H'=>∃ x9 x10 x11 xs,σ=[some (.ref p),some (.int many),some (.str a26),some (.int (2+r1)),some (.str stem),some (.int r5),some (.int stp),some (.int r9),some (.ref fl),x9,x10,x11]/\Sep ((fl,UU (xs.map V.str))::(p,Bx (n+20))::Δ) H'/\xs.length=i/\(∀ x∈xs,Yg x)/\∀ (j:Nat) (x:Str),xs[j]?=some x->ZgP (Qs stem none (some r9)) (Qs stem (some r9) none) ((r5+stp * (0+(j:Int))) % 676) x)
  ⟨_,_,_,[],rfl,(S11.pull p).le (by omega) |>.pull fl,rfl,(fun _ h=>nomatch h),fun _ _ h=>nomatch h⟩ ?_ ?_
 ·rintro i σ H' hi ⟨x9,x10,x11,xs,rfl,S',hxl,hxs,hnm⟩
  have hb:0<=stp * (0+(i:Int)):=Int.mul_nonneg hst.1 (by omega)
  refine ⟨_,rfl,_,rfl,_,rfl,_,_,rfl,rfl,.inl ⟨by omega,by omega⟩,_,_,rfl,rfl,_,_,rfl,rfl,(by show (0:Int) < 676;decide),?_⟩
  obtain ⟨z,hz⟩:∃ z:Int,(r5+stp * (0+(i:Int))) % 676=z:=⟨_,rfl⟩
  have hz0:0<=z:=by rw [<- hz];exact Jt _ (by decide)
  have hz1:z < 676:=by rw [<- hz];exact Jk _ (by decide)
  refine ⟨z,26,congrArg (fun y=>[V.int y,V.int 26]) hz,⟨by decide,by decide⟩,fun t2 ht2=>⟨t2,_,rfl,SqT.of Ze,rfl,_,_,rfl,_,_,rfl,rfl,?_⟩⟩
  generalize hE:upd H' t2 _=H12
  have S12:=(S'.newE ht2 hE).tail
  clear hE
  obtain ⟨c1',hc1,hcl1⟩:=ZcJ (x:=a26) ZcB (r:=z / 26) (by omega) (by rw [UZ];omega)
  obtain ⟨c2',hc2,hcl2⟩:=ZcJ (x:=a26) ZcB (r:=z % 26) (by omega) (by rw [UZ];omega)
  have hsl:=ZhE (x:=stem) d0 (by omega)
  refine ⟨_,rfl,.inl ⟨rfl,_,SqL.of (S12.get fl)⟩,_,rfl,_,rfl,r9,rfl,stem,rfl,Zp (show stem.length<=1000 by omega),_,rfl,_,rfl,a26,_,c1',rfl,rfl,by rw [UZ];decide,hc1,_,_,rfl,rfl,Zp (show _<=1000 by rw [WW];omega),?_⟩
  refine ⟨_,rfl,_,rfl,a26,_,c2',rfl,rfl,by rw [UZ];decide,hc2,_,_,rfl,rfl,Zp (show _<=1000 by rw [WV,WW,WW];omega),_,rfl,_,rfl,r9,rfl,stem,rfl,Zp (show stem.length<=1000 by omega),_,_,rfl,rfl,Zp (show _<=1000 by rw [WV,WV,WW,WW];omega),?_⟩
  refine ⟨fl,_,_,rfl,rfl,S12.get fl,Wq (show _<=1000 by rw [length_map];omega),?_⟩
  have S13:=S12.put fl (.lst (xs.map V.str++[.str (Qs stem none (some r9)++(⟨#[c1']⟩:Str)++(⟨#[c2']⟩:Str)++Qs stem (some r9) none)]))
  refine ⟨_,_,_,xs++[Qs stem none (some r9)++(⟨#[c1']⟩:Str)++(⟨#[c2']⟩:Str)++Qs stem (some r9) none],rfl,by rw [map_append];exact S13,by simp [hxl],fun x hx=>?_,fun j x hx=>?_⟩
  ·rcases mem_append.mp hx with h | h
   ·exact hxs x h
   ·rw [mem_singleton.mp h]
    refine ⟨?_,?_,Zbv (Zbv (Zbv (Zcn g3) (ZdX hcl1)) (ZdX hcl2)) (Zcn g3)⟩<;>(rw [WV,WV,WV,WW,WW];omega)
  ·by_cases hj:j < xs.length
   ·rw [getElem?_append_left hj] at hx;exact hnm j x hx
   ·have hj2:j=i:=by
     have:=(Ql.mp hx).1
     rw [length_append,length_singleton] at this;omega
    subst hj2
    rw [getElem?_append_right (by omega),show j - xs.length=0 by omega] at hx
    cases (show some _=some x from hx)
    rw [hz];exact ⟨c1',c2',rfl,hc1,hc2⟩
 ·rintro σ H' ⟨x9,x10,x11,xs,rfl,S',hxl,hxs,hnm⟩
  exact ⟨_,rfl,q fl H' xs S' hxl hxs (ZhO hst4 (by omega) hnm)⟩
end
def ZdV:V->Bool
 | .str _=>true
 | _=>false
def isRV:V->Bool
 | .ref _=>true
 | _=>false
def _root_.L2.Pg.isSet:Pg->Bool
 | .set _ _ _=>true
 | _=>false
theorem ZhL {K:Qb}{H:Hp}{v:V}{d:Ji}(h:DatT K H v d):∃ t,TyS K H v t/\Gy K t (.type "str")=some (ZdV v)/\Gy K t (.type "tuple")=some (isRV v):=by
 cases h with
 | non=>exact ⟨_,.inl .non,rfl,rfl⟩
 | int i=>exact ⟨_,.inl (.int i),rfl,rfl⟩
 | str x=>exact ⟨_,.inl (.str x),rfl,rfl⟩
 | tup e q=>exact ⟨_,.inr ⟨_,_,rfl,rfl,e⟩,rfl,rfl⟩
theorem WP {K:Qb}{H:Hp}:∀{vs:List V}{ds:List Ji},DatTs K H vs ds->∀ v∈vs,∃ d,DatT K H v d
 | _,_,.nil,_,h=>(nomatch h)
 | _,_,.cons a b,v,h=>by
  rcases mem_cons.mp h with rfl | h
  ·exact ⟨_,a⟩
  ·exact WP b v h
theorem ZlU {K:Qb}{H:Hp}{v:V}{p:Pg}(h:DatT K H v p.dat)(ho:p.ok):∃ a xs,v=.ref a/\SqT K H a xs/\xs.length<=4/\xs[0]?=some (.str p.word)/\(∀ e∈xs,∃ d,DatT K H e d)/\(p.isSet=false->xs.filter ZdV=(p.word::p.ws).map V.str)/\(∀ x v s,p=.set x v s->xs=[.str "set",.str x,v,.str s])/\∃ t d,Xn xs (-1)=some t/\isRV t=p.isB/\DatT K H t d/\(p.isB=true->DatT K H t (.tuple (Pg.dats p.inner))):=by
 cases p with
 | set x v s =>
  obtain ⟨a,xs,rfl,e,q⟩:=DatT.tupI h
  have al:=WP q
  obtain _ | ⟨q1,q2⟩:=q
  cases q1;obtain _ | ⟨q3,q4⟩:=q2;cases q3;obtain _ | ⟨q5,q6⟩:=q4;obtain _ | ⟨q7,q8⟩:=q6;cases q7;cases q8
  have e5:=ZfD q5 ho.2.1
  subst e5
  exact ⟨a,_,rfl,e,by simp,rfl,al,fun z=>(nomatch z),fun x v s z=>by cases z;rfl,_,_,Wz (n:=3) rfl rfl,rfl,.str _,fun z=>(nomatch z)⟩
 | look x =>
  obtain ⟨a,xs,rfl,e,q⟩:=DatT.tupI h
  have al:=WP q
  obtain _ | ⟨q1,q2⟩:=q
  cases q1;obtain _ | ⟨q3,q4⟩:=q2;cases q3;cases q4
  exact ⟨a,_,rfl,e,by simp,rfl,al,fun _=>rfl,fun x v s z=>(nomatch z),_,_,Wz (n:=1) rfl rfl,rfl,.str _,fun z=>(nomatch z)⟩
 | slot w s =>
  obtain ⟨a,xs,rfl,e,q⟩:=DatT.tupI h
  have al:=WP q
  obtain _ | ⟨q1,q2⟩:=q
  cases q1;obtain _ | ⟨q3,q4⟩:=q2;cases q3;cases q4
  exact ⟨a,_,rfl,e,by simp,rfl,al,fun _=>rfl,fun x v s z=>(nomatch z),_,_,Wz (n:=1) rfl rfl,rfl,.str _,fun z=>(nomatch z)⟩
 | pass =>
  obtain ⟨a,xs,rfl,e,q⟩:=DatT.tupI h
  have al:=WP q
  obtain _ | ⟨q1,q2⟩:=q
  cases q1;cases q2
  exact ⟨a,_,rfl,e,by simp,rfl,al,fun _=>rfl,fun x v s z=>(nomatch z),_,_,Wz (n:=0) rfl rfl,rfl,.str _,fun z=>(nomatch z)⟩
 | blk w ps =>
  obtain ⟨a,xs,rfl,e,q⟩:=DatT.tupI h
  have al:=WP q
  obtain _ | ⟨q1,q2⟩:=q
  cases q1;obtain _ | ⟨q3,q4⟩:=q2;cases q4
  have q3':=q3
  obtain ⟨b,ys,rfl,_,_⟩:=DatT.tupI q3
  exact ⟨a,_,rfl,e,by simp,rfl,al,fun _=>rfl,fun x v s z=>(nomatch z),_,_,Wz (n:=1) rfl rfl,rfl,q3',fun _=>q3'⟩
 | inn s ps =>
  obtain ⟨a,xs,rfl,e,q⟩:=DatT.tupI h
  have al:=WP q
  obtain _ | ⟨q1,q2⟩:=q
  cases q1;obtain _ | ⟨q3,q4⟩:=q2;cases q3;obtain _ | ⟨q5,q6⟩:=q4;cases q6
  have q5':=q5
  obtain ⟨b,ys,rfl,_,_⟩:=DatT.tupI q5
  exact ⟨a,_,rfl,e,by simp,rfl,al,fun _=>rfl,fun x v s z=>(nomatch z),_,_,Wz (n:=2) rfl rfl,rfl,q5',fun _=>q5'⟩
def WC (b:Nat):Str:=PD " " (b:Int)
theorem Zeh (c:Nat):∀(n:Nat)(A:Array Nat),((QI n (#[c]:Array Nat)).foldl (·++·) A).toList=A.toList++QI n c
 | 0,A=>by simp
 | n+1,A=>by
  rw [replicate_succ,SK,Zeh c n]
  simp [replicate_succ]
theorem Vv (b:Nat):(WC b).cps.toList=QI b 32:=by
 unfold WC PD
 match b with
 | 0=>rfl
 | 1=>rfl
 | n+2 =>
  rw [if_neg (by omega),if_neg (by rw [show ((((n+2:Nat)):Int) == 1)=false from decide_eq_false (by omega)];decide +kernel)]
  have:=Zeh 32 (n+2) #[]
  rw [show ((((n+2:Nat)):Int)).toNat=n+2 by omega]
  exact this
theorem ZlX (b:Nat):(WC b).length=b:=by
 show (WC b).cps.size=b
 rw [<- QV,Vv,Sa]
theorem Zmn (b:Nat)(x:Str):WC (b+2)++x=WC b++UT x:=by
 apply ZZ
 unfold UT
 simp only [Jl,GG]
 rw [Vv,Vv,show (Qa "  ").cps.toList=[32,32] by decide +kernel,show QI (b+2) 32=QI b 32++[32,32] by rw [JF,JF,append_assoc];rfl,append_assoc]
theorem ZpR (x:Str):WC 0++x=x:=by
 apply ZZ
 simp only [Jl,GG]
 rw [Vv];rfl
theorem ZoI {b:Nat}(h:b<=1000):MulOk " " (b:Int):=by
 refine ⟨?_,fun h1 _=>?_,fun h1 _=>?_⟩
 ·rw [Ps];exact ⟨decide_eq_false (by omega),decide_eq_false (by omega)⟩
 ·rw [show (Qa " ").length=1 by decide +kernel]
  have:(1000:Int)<=(2 ^ 63 - 1) / (b:Int):=by
   rw [TX (by omega)]
   omega
  omega
 ·rw [show (Qa " ").length=1 by decide +kernel]
  have:1000<=sizeLine:=by decide
  exact decide_eq_false (by omega)
section
variable {P:Qm}{w:QC}{K:Qb}{mg:Str->Option Qe}{base:Heap}
def ZeC (K:Qb)(n:Nat):Sp:=fun vs H Q _=>∃(v:V)(b:Nat)(ps:List Pg),vs=[v,.int (b:Int)]/\DatT K H v (.tuple (Pg.dats ps))/\Pg.oks ps/\Pg.rk ps<=n/\b+2 * Pg.hgts ps<=200/\Pg.manys ps<=1000/\∀ l H',Same H H'->H l=none->H' l=some (.lst (((ZN ps).map (WC b++·)).map V.str))->Q (.ref l) H'
abbrev nRo:List Str:=["_law_program_here","_law_blanks","_law_rows_here","_law_step_here","_law_words"]
abbrev ZbH:List Str:=["_law_program_here","_law_blanks"]
theorem scRo:ZB nRo ZbH (Zl s_l_rows):=⟨rfl,rfl,rfl,by decide +kernel,rfl,by decide +kernel,by decide +kernel⟩
theorem ZhS {f:Addr}{fd:Qq}{n k:Nat}(F:Fun K "_law_rows" "_law_rows" s_l_rows f fd)(T:Ya mg)(DWr:Def P w K mg base k "_law_written" ZgM (fun vs H Q E=>∃ v,vs=[v]/\IsVal v/\∀ H',Same H H'->Q (.str (Yk v)) H'))(DRo:Def P w K mg base k "_law_rows" ZbH (fun vs H Q E=>∃ m,m < n/\ZeC K m vs H Q E)):FnOk P w K mg base Yc (k+1) f fd ZbH (ZeC K n):=by
 refine F.ok scRo (fun vs H Q E h=>?_) (fun cdv A outer s H vs Q E hr h=>?_)
 ·obtain ⟨v,b,ps,rfl,_⟩:=h;rfl
 obtain ⟨v,b,ps,rfl,hp,ho,hn,hb,hm,q⟩:=h
 obtain ⟨a,xs,rfl,e,hd⟩:=DatT.tupI hp
 have hl:=hd.pgs
 have hlm:=Pg.len_manys ps
 refine' ⟨?t,?h,?r⟩
 case h =>
  conv=>arg 2;whnf
  with_reducible refine' (Zf ?h1 (Zf (XX ?h2 ?h3 ?h4 ?h5 (Zf ?h6 (Xq (ZT ?h7 (Zh ?h8) ZI) (Zf ?h9 (Zh (ZT ?h10 (Zh ?h11) ZI))))) ?h12) (Zh ?h13)))
  case h1=>exact Zr (i:=2) scRo.nd rfl (Qy rfl) (ZH Za)
  case h2=>exact Ga
  case h3=>exact rfl
  case h4=>exact ZbO (pv 0)
  case h5=>exact ZM (i:=3) scRo.nd rfl (Qy rfl)
  case h6=>exact Zff (i:=4) (CompOk.of nRo s_l_rows rfl rfl (by decide +kernel)) rfl scRo.nd rfl (Qy rfl) (ZbO (pv 3)) (fun _ _ _ _ _=>Yo (Zm (Yx (K:=K) rfl) rfl T.isinstance (by decide +kernel) (Zb (pv 5) (Zb (YH rfl T.str (by decide +kernel) (v:=.ty "str") rfl) Za)))) (fun _ _ _ _ _=>pv 5) rfl
  case h7=>exact ZA Xb (ZG YI (pv 3) Zc (fun _ _=>rfl)) Zk (ZC _)
  case h8=>exact Zr (i:=4) scRo.nd rfl (Qy rfl) (ZH (Zb Zk (Zb (ZG YI (pv 3) Zc (fun _ _=>rfl)) (Zb (Zu DWr hr (Zb (ZG YI (pv 3) Zc (fun _ _=>rfl)) Za)) (Zb (ZG YI (pv 3) Zc (fun _ _=>rfl)) Za)))))
  case h9=>exact YW (ZU QG QR QS YG (pv 2) (Zb (Zj ZJ (Zj WA Zk (pv 1)) (ZU Qo QT QU Xp Zk (Zb (pv 4) Za))) Za))
  case h10=>exact Yo (Zm (Yx (K:=K) rfl) rfl T.isinstance (by decide +kernel) (Zb (ZG YI (pv 3) (Vu UM Zc) (fun _ _=>rfl)) (Zb (YH rfl T.tuple (by decide +kernel) (v:=.ty "tuple") rfl) Za)))
  case h11=>exact YW (ZU QG RM RN Zdw (pv 2) (Zb (Zu DRo hr (Zb (ZG YI (pv 3) (Vu UM Zc) (fun _ _=>rfl)) (Zb (Zj ZO (pv 1) Zc) Za))) Za))
  case h12=>exact fun _=>rfl
  case h13=>exact Zo (pv 2)
 refine ⟨(by show 0<=Qi;decide),fun l hl0=>?_⟩
 refine ⟨_,rfl,a,rfl,⟨_,e.tf (Zg hl0 _).tf⟩,?_⟩
 refine ZfU (xs:=xs) (fun i σ H'=>∃ x3 x4,σ=[some (.ref a),some (.int (b:Int)),some (.ref l),x3,x4]/\Same H H'/\H' l=some (.lst (((ZN (ps.take i)).map (WC b++·)).map V.str))) ⟨_,_,rfl,Zg hl0 _,by rw [take_zero];exact Ze⟩ (fun i σ H' _ ⟨_,_,_,s',_⟩=>e.tf s'.tf) ?_ ?_
 ·rintro i v σ H' hv ⟨x3,x4,rfl,s',el⟩
  obtain ⟨p,ep,dp⟩:=hd.pg hv
  have hop:=Pg.oks_at ho ep
  have hml:=Pg.manys_le (ps:=ps) i
  have hml1:=Pg.manys_le (ps:=ps) (i+1)
  have hmt:=Pg.manys_take ep
  have hmp:=Pg.inner_many (p:=p)
  have hlr:=Xg (ps.take i)
  have hli:=Xg p.inner
  have hhp:=Pg.hgts_at ep
  obtain ⟨c,es,rfl,ec,hes,e0,al,hfil,hset,t,dt,et,ht,dtt,hin⟩:=ZlU (dp.same s') hop
  obtain ⟨hw1,hw2,hw3⟩:=Zeu hop
  refine ⟨_,rfl,c,rfl,⟨_,ec⟩,fun D hD=>?_⟩
  refine Zdo (K:=K) (xs:=es) (Zp (show es.length<=1000 by omega)) (fun j zs H2=>Same H' H2/\H2 D=some (.lst zs)/\j<=es.length/\zs=(es.take j).filter ZdV) ⟨Zg hD _,Ze,Qp _,rfl⟩ ?_ ?_ ?_
  ·rintro j zs H2 ⟨s1,_,hj,rfl⟩
   refine ⟨?_,ec.tf s1.tf⟩
   have:=length_filter_le ZdV (es.take j)
   rw [length_take] at this;omega
  ·rintro j u zs H2 hu ⟨s1,eD,hj,rfl⟩
   have hu2:=(Ql.mp hu).1
   obtain ⟨d,du⟩:=al u (mem_of_getElem? hu)
   obtain ⟨ty,t1,t2,_⟩:=ZhL (du.same s1)
   refine ⟨_,rfl,_,_,_,_,rfl,t1,t2,_,rfl,?_⟩
   have et:es.take (j+1)=es.take j++[u]:=by rw [take_add_one,hu];rfl
   cases hc:ZdV u with
   | false=>exact Zw ⟨s1,eD,hu2,by rw [et,filter_append,filter_cons,hc];simp⟩
   | true=>exact Zx ⟨_,rfl,eD,fun b o e=>by rw [Zn (ZL e hD)];exact s1 _ _ e,Ze,hu2,by rw [et,filter_append,filter_cons,hc];simp⟩
  rintro zs H2 ⟨s2,eD,_,rfl⟩
  rw [take_length] at eD
  have el2:=s2 _ _ el
  refine ⟨fun σ3 H3=>∃ wl:Addr,σ3=[some (.ref a),some (.int (b:Int)),some (.ref l),some (.ref c),some (.ref wl)]/\Same H2 H3/\H3 wl=some (.lst ((p.word::p.ws).map V.str)),?_,?_⟩
  ·refine ⟨_,rfl,c,es,_,_,rfl,rfl,ec.tf s2.tf,ZF (j:=0) e0,rfl,_,rfl,?_⟩
   cases hs:p.isSet with
   | true =>
    cases p with
    | set x v s =>
     have hes2:=hset x v s rfl
     subst hes2
     refine Zx ⟨_,rfl,c,_,_,_,rfl,rfl,ec.tf s2.tf,ZF (j:=1) rfl,_,rfl,c,_,_,_,rfl,rfl,ec.tf s2.tf,ZF (j:=2) rfl,v,rfl,hop.2.1,fun H3 s3=>?_⟩
     refine ⟨_,rfl,c,_,_,_,rfl,rfl,(ec.tf s2.tf).tf s3.tf,ZF (j:=3) rfl,(by show 4<=Qi;decide),fun wl hwl=>⟨wl,rfl,s3.trans (Zg hwl _),Ze⟩⟩
    | _=>exact nomatch hs
   | false =>
    have hne:decide (V.str p.word=V.str (Qa "set"))=false:=by
     refine decide_eq_false fun z=>?_
     injection z with z
     cases p with
     | set x v s=>exact nomatch hs
     | look x=>exact absurd z (show (Qa "look")≠Qa "set" by decide +kernel)
     | pass=>exact absurd z (show (Qa "pass")≠Qa "set" by decide +kernel)
     | inn s ps=>exact absurd z (show (Qa "in")≠Qa "set" by decide +kernel)
     | slot w s=>rcases hop.1 with rfl | rfl<;>exact absurd z (by show Qa _≠_;decide +kernel)
     | blk w s=>rcases hop.1 with rfl | rfl<;>exact absurd z (by show Qa _≠_;decide +kernel)
    rw [hfil hs] at eD
    exact VA hne ⟨D,rfl,Same.refl _,eD⟩
  rintro σ3 H3 ⟨wl,rfl,s3,ew⟩
  have el3:=s3 _ _ el2
  have s03:=(s'.trans s2).trans s3
  have hjb:((p.word::p.ws).map (·.length)).sum+(p.word::p.ws).length * (Qa " ").length<=16777216:=by
   have:=VL (n:=100) (p.word::p.ws) (fun y hy=>by rcases mem_cons.mp hy with rfl | hy;omega;exact hw2 y hy)
   rw [show (Qa " ").length=1 by decide +kernel]
   rw [length_cons] at this ⊢;omega
  have hsl:=Xs hop
  refine ⟨_,rfl,.inl ⟨rfl,_,SqL.of el3⟩,_,rfl,_,_,rfl,rfl,ZoI (b:=b) (by omega),rfl,_,rfl," ",wl,p.word::p.ws,rfl,rfl,SqL.of ew,hjb,_,_,rfl,rfl,Zp (show _<=5000 by have:=ZlX b;show (WC b).length+p.srow.length<=5000;omega),?_⟩
  refine ⟨l,_,_,rfl,rfl,el3,Wq (show _<=1000 by rw [length_map,length_map];omega),?_⟩
  have el4:upd H3 l (.lst (((ZN (ps.take i)).map (WC b++·)).map V.str++[.str (WC b++p.srow)])) l=some (.lst (((ZN (ps.take i)).map (WC b++·)).map V.str++[.str (WC b++p.srow)])):=Ze
  have s4:Same H (upd H3 l (.lst (((ZN (ps.take i)).map (WC b++·)).map V.str++[.str (WC b++p.srow)]))):=XC s03 hl0
  have tf4:TF H' (upd H3 l (.lst (((ZN (ps.take i)).map (WC b++·)).map V.str++[.str (WC b++p.srow)]))):=⟨fun b ys q=>by rw [Zn (ZaQ (s3 _ _ (s2 _ _ q)) el3 (fun z=>nomatch z))];exact s3 _ _ (s2 _ _ q),fun b o u q=>by rw [Zn (ZaQ (s3 _ _ (s2 _ _ q)) el3 (fun z=>nomatch z))];exact s3 _ _ (s2 _ _ q)⟩
  obtain ⟨ty,t1,_,t3⟩:=ZhL (dtt.tf tf4)
  refine ⟨_,rfl,_,rfl,c,es,_,_,rfl,rfl,ec.tf tf4,et,_,_,ty,_,rfl,t1,t3,_,rfl,?_⟩
  have etk:=ZdD ep
  cases hB:p.isB with
  | false =>
   refine VA (ht.trans hB) ⟨_,_,rfl,s4,?_⟩
   rw [etk,Pg.inner_none hB]
   refine el4.trans ?_
   simp [ZN]
  | true =>
   have hge:1+Pg.hgts p.inner<=p.hgt:=by
    cases p with
    | blk w ps=>show 1+Pg.hgts ps<=Pg.hgts ps+1;omega
    | inn s ps=>show 1+Pg.hgts ps<=Pg.hgts ps+1;omega
    | _=>exact nomatch hB
   refine ifT (ht.trans hB) ⟨_,rfl,.inl ⟨rfl,_,SqL.of el4⟩,_,rfl,_,rfl,c,es,_,_,rfl,rfl,ec.tf tf4,et,_,rfl,_,_,rfl,rfl,Pg.rk p.inner,QB (Pg.rk_at ep) hn,t,b+2,p.inner,rfl,(hin hB).tf tf4,Pg.inner_ok hop,Qh _,by omega,by omega,fun m H5 s5 hm0 em=>?_⟩
   have el5:=s5 _ _ el4
   refine ⟨l,m,_,_,rfl,rfl,el5,em,Zp (show _<=5000 by rw [length_append,length_map,length_map,length_map,length_map,length_singleton];omega),?_⟩
   refine ⟨_,_,rfl,XC (s4.trans s5) hl0,?_⟩
   rw [Ze,etk,map_append,map_append,map_cons,map_cons,Ou,show ((ZN p.inner).map (WC (b+2)++·))=(ZN p.inner).map ((WC b++·) ∘ UT) from PQ fun x _=>Zmn b x,append_assoc]
   simp only [Ou,List.singleton_append]
 ·rintro σ H' ⟨x3,x4,rfl,s',el⟩
  rw [hl,take_length] at el
  exact ⟨_,rfl,q l H' s' hl0 el⟩
theorem ZlG {f:Addr}{fd:Qq}(F:Fun K "_law_rows" "_law_rows" s_l_rows f fd)(T:Ya mg)(b:Binds K fd ZbH [])(kp:Gk K (.ref f)=true)(m:mg "_law_rows"=some (.ref f))(DWr:Def P w K mg base 1 "_law_written" ZgM (fun vs H Q E=>∃ v,vs=[v]/\IsVal v/\∀ H',Same H H'->Q (.str (Yk v)) H')):∀ n,FnOk P w K mg base Yc (2+n) f fd ZbH (ZeC K n)
 | 0=>ZhS F T DWr ⟨_,_,⟨fun vs H Q E ⟨_,h,_⟩=>absurd h (Gv _),fun _ _ _ _ _ _ _ _ _ _ _ _ _ ⟨_,h,_⟩=>absurd h (Gv _)⟩,b,kp,m⟩
 | n+1=>ZhS F T (DWr.mono (show 1<=2+n by omega)) ⟨_,_,(ZlG F T b kp m DWr n).imp fun vs H Q E ⟨j,h,v,c,ps,a1,a2,a3,a4,a5⟩=>⟨v,c,ps,a1,a2,a3,by omega,a5⟩,b,kp,m⟩
end
section
variable {P:Qm}{w:QC}{K:Qb}{mg:Str->Option Qe}{base:Heap}
def Zhc:Sp:=fun vs H Q _=>∃(p:Addr)(n:Nat)(Δ:Rs),vs=[.ref p]/\Sep ((p,Bx n)::Δ) H/\n<=890000/\∀(v:V)(H':Hp),IsVal v->Sep ((p,Bx (n+52))::Δ) H'->Q v H'
def wordsW:List Str:=["begin","x in y","late "," in","a begin b","in","set a 5 b","weave 3"]
instance (v:V):Decidable (IsVal v):=by unfold IsVal;cases v<;>infer_instance
theorem ZhF:∀ x∈wordsW,IsVal (.str x):=by decide +kernel
abbrev nWo:List Str:=["_law_box_here","_law_words"]
abbrev Zgu:List Str:=["_law_box_here"]
theorem scWo:ZB nWo Zgu (Zl s_l_worth):=⟨rfl,rfl,rfl,by decide +kernel,rfl,by decide +kernel,by decide +kernel⟩
theorem Zpv {f:Addr}{fd:Qq}(F:Fun K "_law_worth" "_law_worth" s_l_worth f fd)(T:Ya mg)(DT:DTk P w K mg base 2)(DV:Def P w K mg base 2 "_law_value" ["_law_box_here"] Zbp):FnOk P w K mg base Yc 3 f fd Zgu Zhc:=by
 refine F.ok scWo (fun vs H Q E h=>?_) (fun cdv A outer s H vs Q E hr h=>?_)
 ·obtain ⟨p,N,Δ,rfl,_⟩:=h;rfl
 have hr1:=hr
 obtain ⟨p,N,Δ,rfl,S,hN,q⟩:=h
 refine' ⟨?t,?h,?r⟩
 case h =>
  conv=>arg 2;whnf
  with_reducible refine' (Zf (Zr (i:=1) ?h1 ?h2 ?h3 (ZH ?h4) ?h5 ?h6) (Zh ?h7))
  case h1=>exact scWo.nd
  case h2=>exact rfl
  case h3=>exact (Qy rfl)
  case h4=>(refine' Vz (vs:=[.str "begin",.str "x in y",.str "late ",.str " in",.str "a begin b",.str "in",.str "set a 5 b",.str "weave 3"]) ?zz;case zz=>decide +kernel)
  case h5=>exact rfl
  case h6=>exact (by first | exact .inl rfl | exact .inr rfl)
  case h7=>exact Zo (Yv (ZA Xb (Zu DT hr1 (Zb (pv 0) (Zb Zc Za))) Zc (ZC _)) (ZG ZR (pv 1) (Zu DT hr1 (Zb (pv 0) (Zb Zc Za))) (fun _ _=>rfl)) (Zu DV hr (Zb (pv 0) Za)))
 refine ⟨(show 8<=Qi by decide),fun l hl=>?_⟩
 have S0:=S.new hl (.lst (wordsW.map V.str))
 refine ⟨_,rfl,p,N,8,_,rfl,S0.pull p,by omega,by decide,by decide,fun r1 H1 a0 a1 S1=>⟨rfl,_,rfl,?_⟩⟩
 refine Vj (fun c=>?_) (fun c=>?_)
 ·refine ⟨_,rfl,_,rfl,p,N+1,8,_,rfl,S1,by omega,by decide,by decide,fun r2 H2 b0 b1 S2=>?_⟩
  obtain ⟨x,hx,he⟩:=WI (f:=V.str) (xs:=wordsW) b0 b1
  have el:=S2.get l
  exact ⟨l,_,_,_,rfl,rfl,SqL.of el,he,q _ _ (ZhF x hx) ((S2.drop l).le (by omega))⟩
 ·exact ⟨_,rfl,p,_,_,rfl,S1,by omega,fun v H2 hv S2=>q v H2 hv ((S2.drop l).le (by omega))⟩
def wordsC:List Str:=["begin","late","in","set","look","back","copy","pass","weave","setting","task"]
instance (x:Str):Decidable (Yg x):=by unfold Yg;infer_instance
theorem ZhM:∀ x∈wordsC,Yg x:=by decide +kernel
def spCa:Sp:=fun vs H Q _=>∃(p:Addr)(n many:Nat)(Δ:Rs),vs=[.ref p,.int (many:Int)]/\Sep ((p,Bx n)::Δ) H/\n<=890000/\1<=many/\many<=100/\∀(l:Addr)(H':Hp)(xs:List Str),Sep ((l,UU (xs.map V.str))::(p,Bx (n+30))::Δ) H'->xs≠[]->xs.length<=200->(∀ x∈xs,Yg x)->Q (.ref l) H'
theorem Zbu (ws:List Str)(lo hi:Option Int):∃ zs:List Str,Xk (ws.map V.str) lo hi=zs.map V.str/\(∀ z∈zs,z∈ws)/\zs.length<=ws.length:=by
 unfold Xk
 refine ⟨(ws.drop _).take _,by rw [map_take,Su],fun z hz=>JC (mem_of_mem_take hz),?_⟩
 rw [length_take,length_drop];omega
abbrev nCa:List Str:=["_law_box_here","_law_many","_law_words","_law_at","_law_some","_law_first"]
abbrev Zll:List Str:=["_law_box_here","_law_many"]
theorem scCa:ZB nCa Zll (Zl s_l_called):=⟨rfl,rfl,rfl,by decide +kernel,rfl,by decide +kernel,by decide +kernel⟩
theorem Zpg {f:Addr}{fd:Qq}(F:Fun K "_law_called" "_law_called" s_l_called f fd)(T:Ya mg)(DT:DTk P w K mg base 2)(DN:Def P w K mg base 2 "_law_names" ["_law_box_here","_law_many"] Zes):FnOk P w K mg base Yc 3 f fd Zll spCa:=by
 refine F.ok scCa (fun vs H Q E h=>?_) (fun cdv A outer s H vs Q E hr h=>?_)
 ·obtain ⟨p,N,many,Δ,rfl,_⟩:=h;rfl
 have hr1:=hr
 obtain ⟨p,N,many,Δ,rfl,S,hN,hm1,hm2,q⟩:=h
 refine' ⟨?t,?h,?r⟩
 case h =>
  conv=>arg 2;whnf
  with_reducible refine' (Zf (Zr (i:=2) ?h1 ?h2 ?h3 (ZH ?h4) ?h5 ?h6) (Zf ?h7 (Zf ?h8 (Zh ?h9))))
  case h1=>exact scCa.nd
  case h2=>exact rfl
  case h3=>exact (Qy rfl)
  case h4=>(refine' Vz (vs:=[.str "begin",.str "late",.str "in",.str "set",.str "look",.str "back",.str "copy",.str "pass",.str "weave",.str "setting",.str "task"]) ?zz;case zz=>decide +kernel)
  case h5=>exact rfl
  case h6=>exact (by first | exact .inl rfl | exact .inr rfl)
  case h7=>exact Wt (i:=3) (j:=4) rfl scCa.nd rfl rfl (by decide) rfl rfl (Zb (Zu DT hr1 (Zb (pv 0) (Zb Zc Za))) (Zb (ZG ZR (ZH (Zb Zc (Zb Zc (Zb (Zu DT hr1 (Zb (pv 0) (Zb Zc Za))) Za)))) (Zu DT hr1 (Zb (pv 0) (Zb Zc Za))) (fun _ _=>rfl)) Za)) rfl
  case h8=>exact Zr (i:=5) scCa.nd rfl (Rn rfl) (Zs ZX (Zj Yi (Zs ZX (pv 2) (Zv (pv 3)) Zz) (Zs ZX (pv 2) Zz (Zv (pv 3)))) Zz (Zv (pv 4)))
  case h9=>exact Zo (Zs ZX (Zj Yi (pv 5) (Zep (CompOk.of nCa s_l_called rfl rfl (by decide +kernel)) rfl (ZcO (Zu DN hr (Zb (pv 0) (Zb (pv 1) Za)))) (fun _ _ _ _ _=>ZA (ZdL (K:=K) rfl) (pv 6) (pv 5) rfl) (fun _ _ _ _ _=>pv 6))) Zz (Zv (pv 1)))
 refine ⟨(show 11<=Qi by decide),fun l hl=>?_⟩
 have S0:=S.new hl (.lst (wordsC.map V.str))
 refine ⟨_,rfl,p,N,11,_,rfl,S0.pull p,by omega,by decide,by decide,fun r1 H1 a0 a1 S1=>?_⟩
 refine ⟨_,rfl,p,N+1,5,_,rfl,S1,by omega,by decide,by decide,fun r2 H2 b0 b1 S2=>⟨(show 3<=Qi by decide),fun t ht=>?_⟩⟩
 have S3:=S2.new ht (.lst [.int 0,.int 0,.int r2])
 refine ⟨_,rfl,p,N+2,3,_,rfl,S3.pull p,by omega,by decide,by decide,fun r3 H3 c0 c1 S4=>?_⟩
 obtain ⟨sm,hsm,hse⟩:=WI (f:=V.int) (xs:=[0,0,r2]) c0 c1
 have et:=S4.get t
 refine ⟨t,_,_,_,rfl,rfl,SqL.of et,hse,?_⟩
 have S5:=S4.drop t
 have hs4:0<=sm/\sm<=4:=by
  simp only [mem_cons,not_mem_nil,or_false] at hsm
  rcases hsm with rfl | rfl | rfl<;>omega
 refine ⟨_,_,rfl,?_⟩
 have el:=S5.get l
 refine ⟨_,rfl,_,rfl,_,rfl,l,_,rfl,SqL.of el,fun d1 hd1=>?_⟩
 obtain ⟨z1,e1,m1,n1⟩:=Zbu wordsC (some r1) none
 rw [e1]
 have S6:=S5.new hd1 (.lst (z1.map V.str))
 have el6:=S6.get l
 refine ⟨_,rfl,_,rfl,_,rfl,l,_,rfl,SqL.of el6,fun d2 hd2=>?_⟩
 obtain ⟨z2,e2,m2,n2⟩:=Zbu wordsC none (some r1)
 rw [e2]
 have S7:=S6.new hd2 (.lst (z2.map V.str))
 have hwc:wordsC.length=11:=rfl
 refine ⟨d1,d2,_,_,rfl,rfl,S7.get d1,S7.get d2,Zp (show _<=1000 by rw [length_map,length_map];omega),fun d3 hd3=>?_⟩
 have S8:=S7.new hd3 (.lst (z1.map V.str++z2.map V.str))
 refine ⟨_,rfl,_,rfl,d3,_,rfl,SqL.of (S8.get d3),fun d4 hd4=>?_⟩
 obtain ⟨fs,e4,m4,n4⟩:=Zbu (z1++z2) none (some sm)
 rw [map_append] at e4
 rw [e4]
 have S9:=(((((S8.new hd4 (.lst (fs.map V.str))).drop d3).drop d2).drop d1).drop l)
 rw [length_append] at n4
 have mF:∀ x∈fs,Yg x:=fun x hx=>ZhM x (by
  rcases mem_append.mp (m4 x hx) with h | h
  ·exact m1 x h
  ·exact m2 x h)
 generalize upd _ d4 _=H9 at *
 refine ⟨_,rfl,_,rfl,_,rfl,p,N+3,(many:Int),_,rfl,S9.pull p,by omega,by omega,by omega,fun nl H10 xs S10 hxl hxn hnd=>?_⟩
 have hxl2:xs.length=many:=by rw [hxl];exact Tx many
 have enl:=S10.get nl
 have ed4:=S10.get d4
 refine ⟨nl,rfl,⟨_,SqL.of enl⟩,fun D hD=>?_⟩
 refine ZgQ (K:=K) (xs:=xs.map V.str) (Zp (show _<=1000 by rw [length_map];omega)) (fun i ys H'=>Same H10 H'/\H' D=some (.lst ys)/\i<=xs.length/\ys=((xs.take i).filter fun x=>!decide (x∈fs)).map V.str) ⟨Zg hD _,Ze,Qp _,rfl⟩ ?_ ?_ ?_
 ·rintro i ys H' ⟨s1,_,hi,rfl⟩
  refine ⟨?_,SqL.of (s1 _ _ enl)⟩
  have:=length_filter_le (fun x=>!decide (x∈fs)) (xs.take i)
  rw [length_take] at this
  rw [length_map];omega
 ·rintro i v ys H' hv ⟨s1,eD,hi,rfl⟩
  rw [getElem?_map] at hv
  obtain ⟨x,ex,rfl⟩:=QD.mp hv
  have hx2:=(Ql.mp ex).1
  refine ⟨_,rfl,_,rfl,d4,_,rfl,.inl (SqL.of (s1 _ _ ed4)),rfl,(by rw [all_map];exact all_eq_true.mpr fun _ _=>rfl),_,rfl,?_⟩
  dsimp only
  rw [if_pos rfl,ZlP]
  have et:xs.take (i+1)=xs.take i++[x]:=by rw [take_add_one,ex];rfl
  cases hc:decide (x∈fs) with
  | true=>exact Zw ⟨s1,eD,hx2,by rw [et,filter_append,filter_cons,hc];simp⟩
  | false=>exact Zx ⟨_,rfl,eD,fun b o e=>by rw [Zn (ZL e hD)];exact s1 _ _ e,Ze,hx2,by rw [et,filter_append,filter_cons,hc,map_append];simp⟩
 ·rintro ys H' ⟨s1,eD,_,rfl⟩
  rw [length_map,take_length] at eD
  have S11:=S10.made s1 hD eD
  generalize hgs:(xs.filter fun x=>!decide (x∈fs))=gs at *
  have hgl:gs.length<=xs.length:=by rw [<- hgs];exact length_filter_le _ _
  refine ⟨d4,D,_,_,rfl,rfl,S11.get d4,eD,Zp (show _<=1000 by rw [length_map,length_map];omega),fun d5 hd5=>?_⟩
  rw [<- map_append]
  have S12:=S11.new hd5 (.lst ((fs++gs).map V.str))
  refine ⟨_,rfl,_,rfl,d5,_,rfl,SqL.of (S12.get d5),fun d6 hd6=>?_⟩
  rw [Vf,<- map_take]
  have S13:=(((((S12.new hd6 (.lst (((fs++gs).take many).map V.str))).drop d5).drop D).drop nl).drop d4)
  have S14:Sep ((p,Bx (N+30))::_) _:=(S13.pull p).le (by omega)
  refine q d6 _ ((fs++gs).take many) (S14.pull d6) ?_ (by rw [length_take,length_append];omega) (fun x hx=>?_)
  ·intro z
   have h0:=congrArg JT z
   rw [length_take,length_append,length_nil] at h0
   have hf0:fs=[]:=eq_nil_of_length_eq_zero (by omega)
   rw [hf0] at hgs
   have:gs=xs:=by rw [<- hgs];exact List.filter_eq_self.mpr fun _ _=>rfl
   rw [this,hf0] at h0
   simp only [length_nil] at h0
   omega
  ·rcases mem_append.mp (mem_of_mem_take hx) with h | h
   ·exact mF x h
   ·rw [<- hgs] at h;exact hxn x (PZ.mp h).1
end
def ZjN (K:Qb)(ps:List Pg):Wr:=fun a h=>DatT K h (.ref a) (.tuple (Pg.dats ps))
def WR (K:Qb)(p:Pg):Wr:=fun a h=>DatT K h (.ref a) p.dat
def StL (K:Qb)(ps:List Pg):Wr:=fun a h=>∃ vs,h a=some (.lst vs)/\DatTs K h vs (Pg.dats ps)
instance {K:Qb} {ps:List Pg}:Up (ZjN K ps):=⟨fun h s=>DatT.same s h⟩
instance {K:Qb} {p:Pg}:Up (WR K p):=⟨fun h s=>DatT.same s h⟩
instance {K:Qb} {ps:List Pg}:Up (StL K ps):=⟨fun ⟨vs,e,d⟩ s=>⟨vs,s _ _ e,DatTs.same s d⟩⟩
theorem Zpx {K:Qb}{Δ Δ':Rs}{H:Hp}{ps qs:List Pg}(S:Sep Δ H)(l:Addr)[P:Pull l Δ (StL K ps) Δ'](vs':List V)(d:DatTs K H vs' (Pg.dats qs)):Sep ((l,StL K qs)::Δ') (upd H l (.lst vs')):=by
 obtain ⟨vs,el,_⟩:=S.get l
 refine S.updR l _ (fun h ⟨vs,e,_⟩=>⟨_,e,rfl⟩) fun h r l' h' e1 e2 e3=>⟨vs',e1,DatTs.tf ⟨fun b xs q=>e3 b _ (ZaQ q el (fun z=>nomatch z)) q rfl,fun b o u q=>e3 b _ (ZaQ q el (fun z=>nomatch z)) q rfl⟩ d⟩
structure RO (Δ:Rs)(nl sl:Addr)(NS SS:List Str):Prop where
 rd:∀ H,Sep Δ H->H nl=some (.lst (NS.map V.str))/\H sl=some (.lst (SS.map V.str))
 n0:NS≠[]
 s0:SS≠[]
 nl:NS.length<=1000
 sl:SS.length<=1000
 nk:∀ x∈NS,Yg x
 sk:∀ x∈SS,Yg x
section
variable {P:Qm}{w:QC}{K:Qb}{mg:Str->Option Qe}{base:Heap}
def Zbs (K:Qb)(n:Nat):Sp:=fun vs H Q _=>∃(p nl sl:Addr)(N many blocks:Nat)(NS SS:List Str)(Δ:Rs),vs=[.ref p,.ref nl,.ref sl,.int (many:Int),.int (blocks:Int)]/\Sep ((p,Bx N)::Δ) H/\RO Δ nl sl NS SS/\blocks<=n/\many<=200/\N+100 * many<=800000 /\
 ∀ (t:Addr) (H':Hp) (ps:List Pg),Pg.manys ps=many->Pg.oks ps->Pg.hgts ps<=blocks->Sep ((t,ZjN K ps)::(p,Bx (N+100 * many))::Δ) H'->Q (.ref t) H'
abbrev nPr:List Str:=["_law_box_here","_law_names_here","_law_slots","_law_many","_law_blocks","_law_steps","_law_way","_law_name","_law_slot","_law_inner","_law_within","_law_rows_here"]
abbrev ZbA:List Str:=["_law_box_here","_law_names_here","_law_slots","_law_many","_law_blocks"]
theorem scPr:ZB nPr ZbA (Zl s_l_program):=⟨rfl,rfl,rfl,by decide +kernel,rfl,by decide +kernel,by decide +kernel⟩
theorem Zid {f:Addr}{fd:Qq}{n k:Nat}(F:Fun K "_law_program" "_law_program" s_l_program f fd)(T:Ya mg)(DT:DTk P w K mg base k)(DWo:Def P w K mg base k "_law_worth" Zgu Zhc)(DPr:Def P w K mg base k "_law_program" ZbA (fun vs H Q E=>∃ m,m < n/\Zbs K m vs H Q E)):FnOk P w K mg base Yc (k+1) f fd ZbA (Zbs K n):=by
 refine F.ok scPr (fun vs H Q E h=>?_) (fun cdv A outer s H vs Q E hr h=>?_)
 ·obtain ⟨p,nl,sl,N,many,blocks,NS,SS,Δ,rfl,_⟩:=h;rfl
 obtain ⟨p,nl,sl,N,many,blocks,NS,SS,Δ,rfl,S,RO,hbn,hm,hN,q⟩:=h
 have hr1:=hr
 refine' ⟨?t,?h,?r⟩
 case h =>
  conv=>arg 2;whnf
  with_reducible refine' (Zf ?h1 (Zf (VQ ?h2 ?h3 (Zf ?h4 (Zf ?h5 (Zh (ZT ?h6 (Zf ?h7 (Zf ?h8 (Zh ?h9))) (Zh (ZT ?h10 (Zh ?h11) (Zf ?h12 (Zh ?h13))))))))) (Zh ?h14)))
  case h1=>exact Zr (i:=5) scPr.nd rfl (Qy rfl) (ZH Za)
  case h2=>exact Ga
  case h3=>exact ZA UG (pv 3) Zc (ZC _)
  case h4=>exact Wt (i:=6) (j:=3) rfl scPr.nd rfl rfl (by decide) rfl rfl (Zb (Zu DT hr1 (Zb (pv 0) (Zb Zc Za))) (Zb (Zj Xh (pv 3) Zc) Za)) rfl
  case h5=>exact Wt (i:=7) (j:=8) rfl scPr.nd rfl rfl (by decide) rfl rfl (Zb (ZG ZR (pv 1) (Zu DT hr1 (Zb (pv 0) (Zb (Zm ZP rfl T.len Qu (Zb (pv 1) Za)) Za))) (fun _ _=>rfl)) (Zb (ZG ZR (pv 2) (Zu DT hr1 (Zb (pv 0) (Zb (Zm ZP rfl T.len Qu (Zb (pv 2) Za)) Za))) (fun _ _=>rfl)) Za)) rfl
  case h6=>exact PW.pt (Vg (ZA UF (pv 6) Zc (ZC _)) (UC (ZA UG (pv 4) Zc (ZC _))))
  case h7=>exact Zr (i:=9) scPr.nd rfl (Qy rfl) (Zu DT hr1 (Zb (pv 0) (Zb (Zj ZO (pv 3) Zc) Za)))
  case h8=>exact Wt (i:=10) (j:=3) rfl scPr.nd rfl rfl (by decide) rfl rfl (Zb (Zu DPr hr (Zb (pv 0) (Zb (pv 1) (Zb (pv 2) (Zb (pv 9) (Zb (Zj Xh (pv 4) Zc) Za)))))) (Zb (Zj Xh (pv 3) (pv 9)) Za)) rfl
  case h9=>exact YW (ZU QG QR QS YG (pv 5) (Zb (ZG ZR (ZH (Zb (ZV (Zb Zk (Zb (pv 10) Za))) (Zb (ZV (Zb Zk (Zb (pv 10) Za))) (Zb (ZV (Zb Zk (Zb (pv 8) (Zb (pv 10) Za)))) Za)))) (ZG ZR (ZH (Zb Zc (Zb Zc (Zb Zc (Zb Zc (Zb Zc Za)))))) (pv 6) (fun _ _=>rfl)) (fun _ _=>rfl)) Za))
  case h10=>exact ZA UF (pv 6) Zc (ZC _)
  case h11=>exact YW (ZU QG QR QS YG (pv 5) (Zb (ZV (Zb Zk (Zb (pv 7) (Zb (Zu DWo hr (Zb (pv 0) Za)) (Zb (pv 8) Za))))) Za))
  case h12=>exact Zr (i:=11) scPr.nd rfl (Qy rfl) (ZH (Wa (ZV (Zb Zk (Zb (pv 7) Za))) (Wa (ZV (Zb Zk (Zb (pv 7) Za))) (Wa (ZV (Zb Zk (Zb (pv 8) Za))) (Wa (ZV (Zb Zk (Zb (pv 8) Za))) (Wa (ZV (Zb Zk (Zb (pv 8) Za))) (Wa (ZV (Zb Zk Za)) Za rfl) rfl) rfl) rfl) rfl) rfl))
  case h13=>exact YW (ZU QG QR QS YG (pv 5) (Zb (ZG ZR (pv 11) (Zj WE (Zj Xh (pv 6) Zc) Zc) (fun _ _=>rfl)) Za))
  case h14=>exact Zo (Yw We rfl T.tuple (by decide +kernel) (Zb (pv 5) Za))
 have hn0:=length_pos_iff.mpr RO.n0
 have hs0:=length_pos_iff.mpr RO.s0
 have hnl:=RO.nl
 have hsl:=RO.sl
 refine ⟨(show 0<=Qi by decide),fun l hl=>?_⟩
 have S0:=(S.new hl (.lst [])).say l (StL K []) fun h e=>⟨[],e,.nil⟩
 refine ⟨fun m σ H'=>∃ ps y6 y7 y8 y9 y10 y11,σ=[some (.ref p),some (.ref nl),some (.ref sl),some (.int (m:Int)),some (.int (blocks:Int)),some (.ref l),y6,y7,y8,y9,y10,y11]/\Pg.manys ps+m=many/\Pg.oks ps/\Pg.hgts ps<=blocks/\Sep ((p,Bx (N+100 * (many - m)))::(l,StL K ps)::Δ) H',⟨many,[],_,_,_,_,_,_,rfl,(show 0+many=many by omega),trivial,Qp _,(S0.pull p).le (by omega)⟩,?_⟩
 rintro m σ H' ⟨ps,y6,y7,y8,y9,y10,y11,rfl,hps,hok,hh,S'⟩
 refine ⟨_,rfl,_,_,rfl,rfl,_,rfl,Vj (fun c=>?_) (fun c=>?_)⟩
 ·have hc:(0:Int) < (m:Int):=of_decide_eq_true c
  refine ⟨_,fun σ' H2 h=>h,?_⟩
  have lsz:∀ (vs:List V) (Hx:Hp),StL K ps l Hx->Hx l=some (.lst vs)->vs.length < sizeLine:=by
   rintro vs Hx ⟨vs',e1,d1⟩ e2
   rw [e1] at e2
   cases e2
   exact Wq (show vs.length<=1000 by rw [d1.pgs];have:=Pg.len_manys ps;omega)
  have fin:∀ (pg:Pg) (t:Addr) (Hx:Hp) (vs:List V) (j:Nat) (ji:Int) (y6 y7 y8 y9 y10 y11:Option V),ji=(j:Int)->pg.ok->pg.hgt<=blocks->pg.many+j=m->Sep ((t,WR K pg)::(p,Bx (N+100 * (many - j)))::(l,StL K ps)::Δ) Hx->Hx l=some (.lst vs)->∃ m',m' < m/\∃ ps' z6 z7 z8 z9 z10 z11,([some (.ref p),some (.ref nl),some (.ref sl),some (.int ji),some (.int (blocks:Int)),some (.ref l),y6,y7,y8,y9,y10,y11]:St)=[some (.ref p),some (.ref nl),some (.ref sl),some (.int (m':Int)),some (.int (blocks:Int)),some (.ref l),z6,z7,z8,z9,z10,z11]/\Pg.manys ps'+m'=many/\Pg.oks ps'/\Pg.hgts ps'<=blocks/\Sep ((p,Bx (N+100 * (many - m')))::(l,StL K ps')::Δ) (upd Hx l (.lst (vs++[.ref t]))):=by
   rintro pg t Hx vs j ji y6 y7 y8 y9 y10 y11 rfl hpo hph hpm Sx elx
   obtain ⟨vs',e1,d1⟩:=Sx.get l
   rw [elx] at e1
   cases e1
   have dt:DatT K Hx (.ref t) pg.dat:=Sx.get t
   have S3:=(Zpx Sx l (qs:=ps++[pg]) (vs++[.ref t]) (by rw [Pg.dats_app];exact d1.append (.cons dt .nil))).drop t
   have hmp:=Pg.many_pos pg
   refine ⟨j,by omega,ps++[pg],_,_,_,_,_,_,rfl,?_,Pg.oks_app hok ⟨hpo,trivial⟩,Pg.hgts_app hh (by show max pg.hgt 0<=blocks;omega),S3.pull p⟩
   rw [Pg.manys_app]
   show Pg.manys ps+(pg.many+0)+j=many
   omega
  refine ⟨_,rfl,p,_,14,_,rfl,S',by omega,by decide,by decide,fun r1 H1 a0 a1 S1=>⟨_,rfl,_,_,rfl,rfl,_,_,rfl,?_⟩⟩
  refine ⟨_,rfl,_,rfl,_,rfl,nl,_,rfl,.inl (SqL.of (RO.rd _ S1.tail.tail).1),p,_,_,_,rfl,S1,by omega,by rw [length_map];omega,by rw [length_map];omega,fun r2 H2 b0 b1 S2=>?_⟩
  rw [length_map] at b1
  obtain ⟨x,hxm,hxe⟩:=WI (f:=V.str) (xs:=NS) b0 b1
  refine ⟨nl,_,_,_,rfl,rfl,SqL.of (RO.rd _ S2.tail.tail).1,hxe,?_⟩
  refine ⟨_,rfl,_,rfl,_,rfl,sl,_,rfl,.inl (SqL.of (RO.rd _ S2.tail.tail).2),p,_,_,_,rfl,S2,by omega,by rw [length_map];omega,by rw [length_map];omega,fun r3 H3 d0 d1 S3=>?_⟩
  rw [length_map] at d1
  obtain ⟨y,hym,hye⟩:=WI (f:=V.str) (xs:=SS) d0 d1
  refine ⟨sl,_,_,_,rfl,rfl,SqL.of (RO.rd _ S3.tail.tail).2,hye,_,_,rfl,?_⟩
  obtain ⟨vs3,el3,_⟩:=S3.get l
  refine ⟨_,rfl,_,_,rfl,rfl,_,rfl,Vj (fun c1=>?_) (fun c1=>?_)⟩
  ·have h5:r1 < 5:=of_decide_eq_true c1
   refine ⟨_,rfl,_,_,rfl,rfl,_,rfl,Vj (fun c2=>?_) (fun c2=>?_)⟩
   ·have hb1:(0:Int) < (blocks:Int):=of_decide_eq_true c2
    refine ⟨_,rfl,_,rfl,_,_,rfl,rfl,p,_,_,_,rfl,S3,by omega,by omega,by omega,fun r4 H4 f0 f1 S4=>?_⟩
    refine ⟨_,rfl,_,rfl,_,rfl,_,rfl,_,rfl,_,_,rfl,rfl,blocks - 1,by omega,p,nl,sl,_,r4.toNat,blocks - 1,NS,SS,(l,StL K ps)::Δ,by rw [show ((blocks - 1:Nat):Int)=(blocks:Int) - 1 by omega,show ((r4.toNat:Nat):Int)=r4 by omega];rfl,S4,⟨fun H z=>RO.rd H z.tail,RO.n0,RO.s0,RO.nl,RO.sl,RO.nk,RO.sk⟩,by omega,by omega,by omega,fun ti H5 qs hq1 hq2 hq3 S5=>?_⟩
    refine ⟨_,rfl,_,rfl,_,_,rfl,rfl,_,_,rfl,?_⟩
    obtain ⟨vs5,el5,_⟩:=S5.get l
    refine ⟨_,rfl,.inl ⟨rfl,_,SqL.of el5⟩,_,rfl,(show 2<=Qi by decide),fun t1 ht1=>?_⟩
    have V1:=S5.new ht1 (.tup [.str "begin",.ref ti])
    have e1:DatT K _ (.ref ti) (.tuple (Pg.dats qs)):=V1.get ti
    have V1:=V1.im (T:=WR K (.blk "begin" qs)) fun h e _ im=>DatT.tup (SqT.of e) (.cons (.str _) (.cons (e1.tf ⟨fun x xs q=>im _ _ q rfl,fun x o u q=>im _ _ q rfl⟩) .nil))
    refine ⟨_,rfl,(show 2<=Qi by decide),fun t2 ht2=>?_⟩
    have V2:=V1.new ht2 (.tup [.str "late",.ref ti])
    have e2:DatT K _ (.ref ti) (.tuple (Pg.dats qs)):=V2.get ti
    have V2:=V2.im (T:=WR K (.blk "late" qs)) fun h e _ im=>DatT.tup (SqT.of e) (.cons (.str _) (.cons (e2.tf ⟨fun x xs q=>im _ _ q rfl,fun x o u q=>im _ _ q rfl⟩) .nil))
    refine ⟨_,rfl,_,rfl,(show 3<=Qi by decide),fun t3 ht3=>?_⟩
    have V3:=V2.new ht3 (.tup [.str "in",.str y,.ref ti])
    have e3:DatT K _ (.ref ti) (.tuple (Pg.dats qs)):=V3.get ti
    have V3:=V3.im (T:=WR K (.inn y qs)) fun h e _ im=>DatT.tup (SqT.of e) (.cons (.str _) (.cons (.str _) (.cons (e3.tf ⟨fun x xs q=>im _ _ q rfl,fun x o u q=>im _ _ q rfl⟩) .nil)))
    refine ⟨(show 3<=Qi by decide),fun lr hlr=>?_⟩
    have V4:=V3.new hlr (.lst [.ref t1,.ref t2,.ref t3])
    refine ⟨(show 5<=Qi by decide),fun lk hlk=>?_⟩
    have V5:=V4.new hlk (.lst [.int 0,.int 0,.int 1,.int 2,.int 2])
    generalize upd _ lk _=Hx at *
    obtain ⟨vs7,el7,_⟩:=V5.get l
    have pick:∃ (kk:Int) (tk:Addr) (pg:Pg),Xn [V.int 0,.int 0,.int 1,.int 2,.int 2] r1=some (.int kk)/\Xn [V.ref t1,.ref t2,.ref t3] kk=some (.ref tk)/\pg.ok/\pg.hgt<=blocks/\pg.many=1+Pg.manys qs/\Sep ((tk,WR K pg)::(p,Bx (N+100 * (many - (m - 1 - r4.toNat))))::(l,StL K ps)::Δ) Hx:=by
     have U:=(V5.drop lk).drop lr
     rcases (show r1=0\/r1=1\/r1=2\/r1=3\/r1=4 by omega) with rfl | rfl | rfl | rfl | rfl
     ·exact ⟨0,t1,.blk "begin" qs,ZF (j:=0) rfl,ZF (j:=0) rfl,⟨.inl rfl,hq2⟩,(by show Pg.hgts qs+1<=blocks;omega),rfl,(((((U.drop t3).drop t2).drop ti).pull p).le (by omega)).pull t1⟩
     ·exact ⟨0,t1,.blk "begin" qs,ZF (j:=1) rfl,ZF (j:=0) rfl,⟨.inl rfl,hq2⟩,(by show Pg.hgts qs+1<=blocks;omega),rfl,(((((U.drop t3).drop t2).drop ti).pull p).le (by omega)).pull t1⟩
     ·exact ⟨1,t2,.blk "late" qs,ZF (j:=2) rfl,ZF (j:=1) rfl,⟨.inr rfl,hq2⟩,(by show Pg.hgts qs+1<=blocks;omega),rfl,(((((U.drop t3).drop t1).drop ti).pull p).le (by omega)).pull t2⟩
     ·exact ⟨2,t3,.inn y qs,ZF (j:=3) rfl,ZF (j:=2) rfl,⟨RO.sk y hym,hq2⟩,(by show Pg.hgts qs+1<=blocks;omega),rfl,(((((U.drop t2).drop t1).drop ti).pull p).le (by omega)).pull t3⟩
     ·exact ⟨2,t3,.inn y qs,ZF (j:=4) rfl,ZF (j:=2) rfl,⟨RO.sk y hym,hq2⟩,(by show Pg.hgts qs+1<=blocks;omega),rfl,(((((U.drop t2).drop t1).drop ti).pull p).le (by omega)).pull t3⟩
    obtain ⟨kk,tk,pg,k1,k2,p1,p2,p3,p4⟩:=pick
    exact ⟨_,rfl,lk,_,_,_,rfl,rfl,SqL.of (V5.get lk),k1,lr,_,_,_,rfl,rfl,SqL.of (V5.get lr),k2,l,vs7,_,rfl,rfl,el7,lsz _ _ (V5.get l) el7,fin pg tk _ vs7 (m - 1 - r4.toNat) _ _ _ _ _ _ _ (by omega) p1 p2 (by omega) p4 el7⟩
   ·refine ⟨_,rfl,_,_,rfl,rfl,_,rfl,ifT (decide_eq_true (by omega)) ?_⟩
    refine ⟨_,rfl,.inl ⟨rfl,_,SqL.of el3⟩,_,rfl,_,rfl,p,_,_,rfl,S3,by omega,fun v H4 hv S4=>⟨_,rfl,(show 4<=Qi by decide),fun t ht=>?_⟩⟩
    have S5:=(S4.new ht (.tup [.str "set",.str x,v,.str y])).say t (WR K (.set x v y)) fun h e=>DatT.tup (SqT.of e) (.cons (.str _) (.cons (.str _) (.cons (by cases v<;>first | exact .int _ | exact .str _ | exact hv.elim) (.cons (.str _) .nil))))
    obtain ⟨vs5,el5,_⟩:=S5.get l
    exact ⟨l,vs5,_,rfl,rfl,el5,lsz _ _ (S5.get l) el5,fin (.set x v y) t _ vs5 (m - 1) _ _ _ _ _ _ _ (by omega) ⟨RO.nk x hxm,hv,RO.sk y hym⟩ (Qp _) (by show 1+(m - 1)=m;omega) (((S5.pull p).le (by omega)).pull t) el5⟩
  ·refine Zw ⟨_,rfl,_,_,rfl,rfl,_,rfl,Vj (fun c2=>?_) (fun c2=>?_)⟩
   ·refine ⟨_,rfl,.inl ⟨rfl,_,SqL.of el3⟩,_,rfl,_,rfl,p,_,_,rfl,S3,by omega,fun v H4 hv S4=>⟨_,rfl,(show 4<=Qi by decide),fun t ht=>?_⟩⟩
    have S5:=(S4.new ht (.tup [.str "set",.str x,v,.str y])).say t (WR K (.set x v y)) fun h e=>DatT.tup (SqT.of e) (.cons (.str _) (.cons (.str _) (.cons (by cases v<;>first | exact .int _ | exact .str _ | exact hv.elim) (.cons (.str _) .nil))))
    obtain ⟨vs5,el5,_⟩:=S5.get l
    exact ⟨l,vs5,_,rfl,rfl,el5,lsz _ _ (S5.get l) el5,fin (.set x v y) t _ vs5 (m - 1) _ _ _ _ _ _ _ (by omega) ⟨RO.nk x hxm,hv,RO.sk y hym⟩ (Qp _) (by show 1+(m - 1)=m;omega) (((S5.pull p).le (by omega)).pull t) el5⟩
   ·have h5:¬ r1 < 5:=fun z=>c1 (decide_eq_true z)
    have h8:¬ r1 < 8:=fun z=>c2 (decide_eq_true z)
    refine ⟨_,rfl,(show 2<=Qi by decide),fun t1 ht1=>?_⟩
    have T1:=(S3.new ht1 (.tup [.str "look",.str x])).say t1 (WR K (.look x)) fun h e=>DatT.tup (SqT.of e) (.cons (.str _) (.cons (.str _) .nil))
    refine ⟨_,rfl,(show 2<=Qi by decide),fun t2 ht2=>?_⟩
    have T2:=(T1.new ht2 (.tup [.str "look",.str x])).say t2 (WR K (.look x)) fun h e=>DatT.tup (SqT.of e) (.cons (.str _) (.cons (.str _) .nil))
    refine ⟨_,rfl,(show 2<=Qi by decide),fun t3 ht3=>?_⟩
    have T3:=(T2.new ht3 (.tup [.str "back",.str y])).say t3 (WR K (.slot "back" y)) fun h e=>DatT.tup (SqT.of e) (.cons (.str _) (.cons (.str _) .nil))
    refine ⟨_,rfl,(show 2<=Qi by decide),fun t4 ht4=>?_⟩
    have T4:=(T3.new ht4 (.tup [.str "copy",.str y])).say t4 (WR K (.slot "copy" y)) fun h e=>DatT.tup (SqT.of e) (.cons (.str _) (.cons (.str _) .nil))
    refine ⟨_,rfl,(show 2<=Qi by decide),fun t5 ht5=>?_⟩
    have T5:=(T4.new ht5 (.tup [.str "copy",.str y])).say t5 (WR K (.slot "copy" y)) fun h e=>DatT.tup (SqT.of e) (.cons (.str _) (.cons (.str _) .nil))
    refine ⟨(show 1<=Qi by decide),fun t6 ht6=>?_⟩
    have T6:=(T5.new ht6 (.tup [.str "pass"])).say t6 (WR K .pass) fun h e=>DatT.tup (SqT.of e) (.cons (.str _) .nil)
    refine ⟨(show 6<=Qi by decide),fun lr hlr=>?_⟩
    have T7:=T6.new hlr (.lst [.ref t1,.ref t2,.ref t3,.ref t4,.ref t5,.ref t6])
    generalize upd _ lr _=Hx at *
    obtain ⟨vs7,el7,_⟩:=T7.get l
    have pick:∃ (tk:Addr) (pg:Pg),Xn [V.ref t1,.ref t2,.ref t3,.ref t4,.ref t5,.ref t6] ((r1 - 8) % 6)=some (.ref tk)/\pg.ok/\pg.hgt<=blocks/\pg.many=1/\Sep ((tk,WR K pg)::(p,Bx (N+100 * (many - (m - 1))))::(l,StL K ps)::Δ) Hx:=by
     have U:=T7.drop lr
     rcases (show r1=8\/r1=9\/r1=10\/r1=11\/r1=12\/r1=13 by omega) with rfl | rfl | rfl | rfl | rfl | rfl
     ·exact ⟨t1,.look x,ZF (j:=0) rfl,RO.nk x hxm,Qp _,rfl,((((((((U.drop t6).drop t5).drop t4).drop t3).drop t2)).pull p).le (by omega)).pull t1⟩
     ·exact ⟨t2,.look x,ZF (j:=1) rfl,RO.nk x hxm,Qp _,rfl,((((((((U.drop t6).drop t5).drop t4).drop t3).drop t1)).pull p).le (by omega)).pull t2⟩
     ·exact ⟨t3,.slot "back" y,ZF (j:=2) rfl,⟨.inl rfl,RO.sk y hym⟩,Qp _,rfl,((((((((U.drop t6).drop t5).drop t4).drop t2).drop t1)).pull p).le (by omega)).pull t3⟩
     ·exact ⟨t4,.slot "copy" y,ZF (j:=3) rfl,⟨.inr rfl,RO.sk y hym⟩,Qp _,rfl,((((((((U.drop t6).drop t5).drop t3).drop t2).drop t1)).pull p).le (by omega)).pull t4⟩
     ·exact ⟨t5,.slot "copy" y,ZF (j:=4) rfl,⟨.inr rfl,RO.sk y hym⟩,Qp _,rfl,((((((((U.drop t6).drop t4).drop t3).drop t2).drop t1)).pull p).le (by omega)).pull t5⟩
     ·exact ⟨t6,.pass,ZF (j:=5) rfl,trivial,Qp _,rfl,((((((((U.drop t5).drop t4).drop t3).drop t2).drop t1)).pull p).le (by omega)).pull t6⟩
    obtain ⟨tk,pg,hk,p1,p2,p3,p4⟩:=pick
    exact ⟨_,rfl,.inl ⟨rfl,_,SqL.of el7⟩,_,rfl,_,rfl,_,_,rfl,rfl,_,_,rfl,rfl,(show (0:Int) < 6 by decide),lr,_,_,_,rfl,rfl,SqL.of (T7.get lr),hk,l,vs7,_,rfl,rfl,el7,lsz _ _ (T7.get l) el7,fin pg tk _ vs7 (m - 1) _ _ _ _ _ _ _ (by omega) p1 p2 (by omega) p4 el7⟩
 ·have hc:m=0:=by
   have:¬ (0:Int) < (m:Int):=fun z=>c (decide_eq_true z)
   omega
  subst hc
  obtain ⟨vs1,el1,dl1⟩:=S'.get l
  refine ⟨_,rfl,l,vs1,rfl,.inl ⟨SqL.of el1,fun t ht=>?_⟩⟩
  have S1:=S'.new ht (.tup vs1)
  have dl2:=DatTs.same (Zg ht (.tup vs1)) dl1
  refine q t _ ps (by omega) hok hh ?_
  exact (S1.im (T:=ZjN K ps) fun h e _ im=>DatT.tup (SqT.of e) (DatTs.tf ⟨fun x xs q=>im _ _ q rfl,fun x o u q=>im _ _ q rfl⟩ dl2)).drop l
end
section
variable {P:Qm}{w:QC}{K:Qb}{mg:Str->Option Qe}{base:Heap}
theorem ZmB {n m:Nat}(h:n<=m){vs:List V}{H:Hp}{Q:VK}{E:XK}(z:Zbs K n vs H Q E):Zbs K m vs H Q E:=by
 obtain ⟨p,nl,sl,N,many,blocks,NS,SS,Δ,e,S,RO,hb,z⟩:=z
 exact ⟨p,nl,sl,N,many,blocks,NS,SS,Δ,e,S,RO,by omega,z⟩
theorem ZlF {f:Addr}{fd:Qq}(F:Fun K "_law_program" "_law_program" s_l_program f fd)(T:Ya mg)(b:Binds K fd ZbA [])(kp:Gk K (.ref f)=true)(m:mg "_law_program"=some (.ref f))(DT:DTk P w K mg base 3)(DWo:Def P w K mg base 3 "_law_worth" Zgu Zhc):∀ n,FnOk P w K mg base Yc (4+n) f fd ZbA (Zbs K n)
 | 0=>Zid F T DT DWo ⟨_,_,⟨fun vs H Q E ⟨_,h,_⟩=>absurd h (Gv _),fun _ _ _ _ _ _ _ _ _ _ _ _ _ ⟨_,h,_⟩=>absurd h (Gv _)⟩,b,kp,m⟩
 | n+1=>Zid F T (DT.mono (show 3<=4+n by omega)) (DWo.mono (show 3<=4+n by omega)) ⟨_,_,(ZlF F T b kp m DT DWo n).imp fun vs H Q E ⟨j,h,z⟩=>ZmB (by omega) z,b,kp,m⟩
end
def fB:Nat->Nat
 | 0=>14000
 | 1=>28100
 | _=>56300
section
variable {P:Qm}{w:QC}{K:Qb}{mg:Str->Option Qe}{base:Heap}
def spBn:Sp:=fun vs H Q _=>∃(p:Addr)(n:Nat)(x:Str)(Δ:Rs),vs=[.ref p,.str x]/\Sep ((p,Bx n)::Δ) H/\n<=90000/\x.length<=14000/\Yd x<=50/\∀(y:Str)(H':Hp)(N:Nat),y.length<=56300->Yd y<=Yd x+4->N<=n+20->Sep ((p,Bx N)::Δ) H'->Q (.str y) H'
abbrev nBn:List Str:=["_law_box_here","_law_text","_law_turn"]
abbrev ZkP:List Str:=["_law_box_here","_law_text"]
theorem scBn:ZB nBn ZkP (Zl s_l_bent):=⟨rfl,rfl,rfl,by decide +kernel,rfl,by decide +kernel,by decide +kernel⟩
theorem Zml {f:Addr}{fd:Qq}{k:Nat}(F:Fun K "_law_bent" "_law_bent" s_l_bent f fd)(T:Ya mg)(DT:DTk P w K mg base k)(DSb:Def P w K mg base k "_law_sign_bent" ZkF spSb)(DRs:Def P w K mg base k "_law_rows_bent" ZkG spRs):FnOk P w K mg base Yc (k+1) f fd ZkP spBn:=by
 refine F.ok scBn (fun vs H Q E h=>?_) (fun cdv A outer s H vs Q E hr h=>?_)
 ·obtain ⟨p,n,x,Δ,rfl,_⟩:=h;rfl
 obtain ⟨p,n,x,Δ,rfl,S,hn,hx,hcx,q⟩:=h
 have hr1:=hr
 refine' ⟨?t,?h,?r⟩
 case h =>
  conv=>arg 2;whnf
  with_reducible refine' (Zf (XX ?h1 ?h2 ?h3 ?h4 (Zh (ZT ?h5 (Zh ?h6) (Zh ?h7))) ?h8) (Zh ?h9))
  case h1=>exact Ga
  case h2=>exact rfl
  case h3=>exact Ws rfl T.range (Zb (Zj ZO Zc (Zu DT hr1 (Zb (pv 0) (Zb Zc Za)))) Za)
  case h4=>exact ZM (i:=2) scBn.nd rfl (Qy rfl)
  case h5=>exact ZA Xb (Zu DT hr1 (Zb (pv 0) (Zb Zc Za))) Zc (ZC _)
  case h6=>exact Zr (i:=1) scBn.nd rfl (Qy rfl) (Zu DSb hr (Zb (pv 0) (Zb (pv 1) Za)))
  case h7=>exact Zr (i:=1) scBn.nd rfl (Qy rfl) (ZU Qo QT QU Xp Zk (Zb (Zu DRs hr (Zb (pv 0) (Zb (ZU Qo QX Gu Wn (pv 1) (Zb Zk Za)) Za))) Za))
  case h8=>exact fun _=>rfl
  case h9=>exact Zo (pv 1)
 refine ⟨_,rfl,p,_,2,_,rfl,S,by omega,by decide,by decide,fun r H1 a0 a1 S1=>⟨_,_,rfl,rfl,?_⟩⟩
 refine ⟨1+r,rfl,by omega,by omega,?_⟩
 refine Vr (fun i σ H'=>∃ (y:Str) (N:Nat) (x2:Option V),σ=[some (.ref p),some (.str y),x2]/\y.length<=fB i/\Yd y<=Yd x+2 * i/\N<=n+1+9 * i/\Sep ((p,Bx N)::Δ) H') ⟨x,_,_,rfl,hx,by omega,Qh _,S1⟩ ?_ ?_
 ·rintro i σ H2 hi ⟨y,N,x2,rfl,hyl,hyc,hN,S2⟩
  have hi:i=0\/i=1:=by
   have:(i:Int) < 1+r:=by first | exact_mod_cast hi | omega
   omega
  have hyb:y.length<=28100:=by
   rcases hi with rfl | rfl
   ·have:y.length<=14000:=hyl;omega
   ·exact hyl
  have nxt:∀ z:Str,z.length<=2 * y.length+60->z.length<=fB (i+1):=fun z hz=>by
   rcases hi with rfl | rfl
   ·have:y.length<=14000:=hyl;show z.length<=28100;omega
   ·have:y.length<=28100:=hyl;show z.length<=56300;omega
  refine ⟨_,rfl,p,_,2,_,rfl,S2,by omega,by decide,by decide,fun r2 H3 b0 b1 S3=>⟨rfl,_,rfl,?_⟩⟩
  by_cases h0:r2=0
  ·subst h0
   rw [decide_eq_true (show V.int 0=V.int 0 from rfl)]
   refine Zx ⟨_,rfl,_,rfl,p,_,y,_,rfl,S3,by omega,by omega,fun z H4 h1 h2 S4=>?_⟩
   exact ⟨z,_,_,rfl,nxt z (by omega),by omega,by omega,S4⟩
  ·rw [decide_eq_false (show ¬ V.int r2=V.int 0 from fun z=>h0 (by injection z))]
   have hsr:=VO y
   have hwt:=Zaj y (s:=Qa "\n") (by decide +kernel)
   have hnf:=Zbi y
   have hne:=XB y (Qa "\n")
   refine Zw ⟨rfl,_,rfl,_,rfl,rfl,y,_,rfl,rfl,(by decide +kernel),by omega,fun l hl=>?_⟩
   generalize QF y (Qa "\n")=rows at hsr hwt hnf hne ⊢
   have S4:=S3.new hl (.lst (rows.map V.str))
   dsimp only [Xf]
   refine ⟨p,l,_,rows,_,rfl,S4.pull p,by omega,hne,by omega,by omega,hnf,fun l2 ys N2 H5 S5 el hN2 hyf hyl2 hyw=>?_⟩
   have hjl:=UA (s:=Qa "\n") (by decide +kernel) ys
   have hjc:=Vy hyf
   refine ⟨Qa "\n",l2,ys,rfl,rfl,SqL.of el,?_,?_⟩
   ·rw [show (Qa "\n").length=1 by decide +kernel,Tp];show wt _<=_;omega
   ·exact ⟨_,N2,_,rfl,nxt _ (by omega),by omega,by omega,S5⟩
 ·rintro σ H2 ⟨y,N,x2,rfl,hyl,hyc,hN,S2⟩
  have hi:(1+r).toNat=1\/(1+r).toNat=2:=by omega
  have hyb:y.length<=56300:=by
   rcases hi with e | e
   ·rw [e] at hyl;have:y.length<=28100:=hyl;omega
   ·rw [e] at hyl;exact hyl
  exact ⟨_,rfl,q y H2 N hyb (by omega) (by omega) S2⟩
variable {CB fpm:Addr}{fdpm:Qq}
abbrev nLw:List Str:=["_law_script","_law_k","_law_box_here","_law_names_here","_law_slots","_law_text","_law_turn"]
abbrev pnLw:List Str:=["_law_script"]
theorem scLw:ZB nLw pnLw (Zl s_law):=⟨rfl,rfl,rfl,by decide +kernel,rfl,by decide +kernel,by decide +kernel⟩
theorem Znq {f:Addr}{fd:Qq}{k:Nat}(F:Fun K "law" "law" s_law f fd)(T:Ya mg)(DT:DTk P w K mg base k)(DB:Def P w K mg base k "_law_box" ["_law_script","_law_k"] (ZeY K))(DCa:Def P w K mg base k "_law_called" Zll spCa)(DPr:Def P w K mg base k "_law_program" ZbA (Zbs K 3))(DRo:Def P w K mg base k "_law_rows" ZbH (ZeC K 10))(DRt:Def P w K mg base k "_law_right" ZjL spRt)(DBn:Def P w K mg base k "_law_bent" ZkP spBn)(DOp:Def P w K mg base k "_law_opened" Zlj spOp):FnOk P w K mg base Yc (k+1) f fd pnLw (ZdN K):=by
 refine F.ok scLw (fun vs H Q E h=>?_) (fun cdv A outer s H vs Q E hr h=>?_)
 ·obtain ⟨a,ns,rfl,_⟩:=h;rfl
 obtain ⟨a,ns,rfl,hS,h63,q⟩:=h
 have hr1:=hr
 refine' ⟨?t,?h,?r⟩
 case h =>
  conv=>arg 2;whnf
  with_reducible refine' (Zf (XX ?h1 ?h2 ?h3 ?h4 (Zf ?h5 (Zf ?h6 (Zf ?h7 (Zf (XX ?h8 ?h9 ?h10 ?h11 (Zh (ZT ?h12 (Zh ?h13) ZI)) ?h14) (Zh (ZT ?h15 (Zh ?h16) ZI)))))) ?h17) (Zh ?h18))
  case h1=>exact Ga
  case h2=>exact rfl
  case h3=>exact Ws rfl T.range (Zb (Zm (ZhC rfl) rfl T.max (by decide +kernel) (Zb Zc (Zb (Zm (ZhH rfl) rfl T.min (by decide +kernel) (Zb (Zm ZP rfl T.len Qu (Zb (pv 0) Za)) (Zb Zc Za))) Za))) Za)
  case h4=>exact ZM (i:=1) scLw.nd rfl (Qy rfl)
  case h5=>exact Zr (i:=2) scLw.nd rfl (Rn rfl) (Zu DB hr (Zb (pv 0) (Zb (pv 1) Za)))
  case h6=>exact Wt (i:=3) (j:=4) rfl scLw.nd rfl rfl (by decide) rfl rfl (Zb (Zu DCa hr (Zb (pv 2) (Zb (Zj ZO Zc (Zu DT hr1 (Zb (pv 2) (Zb Zc Za)))) Za))) (Zb (Zu DCa hr (Zb (pv 2) (Zb (Zj ZO Zc (Zu DT hr1 (Zb (pv 2) (Zb Zc Za)))) Za))) Za)) rfl
  case h7=>exact Zr (i:=5) scLw.nd rfl (Rn rfl) (ZU Qo QT QU Xp Zk (Zb (Zu DRo hr (Zb (Zu DPr hr (Zb (pv 2) (Zb (pv 3) (Zb (pv 4) (Zb (Zj ZO Zc (Zu DT hr1 (Zb (pv 2) (Zb Zc Za)))) (Zb Zc Za)))))) (Zb Zc Za))) Za))
  case h8=>exact Ga
  case h9=>exact rfl
  case h10=>exact Ws rfl T.range (Zb Zc Za)
  case h11=>exact ZM (i:=6) scLw.nd rfl (Qy rfl)
  case h12=>exact XI (Yo (Zu DRt hr (Zb (Zu DBn hr (Zb (pv 2) (Zb (pv 5) Za))) Za)))
  case h13=>exact Zo Zad
  case h14=>exact fun _=>rfl
  case h15=>exact PW.pt (Xt (XI (Yo (Zu DRt hr (Zb (pv 5) Za)))) (Wg (XI (Yo (Zm (Wx rfl) rfl T.all (by decide +kernel) (Zb (XM (CompOk.of nLw s_law rfl rfl (by decide +kernel)) rfl (Ws rfl T.range (Zb Zc Za))  (fun _ _ _ _ _=>Zu DRt hr (Zb (Zu DOp hr (Zb (pv 2) (Zb (pv 5) Za))) Za))) Za))))))
  case h16=>exact Zo Zad
  case h17=>exact fun _=>rfl
  case h18=>exact Zo Zad
 have S:Sep [(a,ScQ K ns)] H:=⟨H,fun _ _ e=>e,hS,trivial⟩
 refine ⟨_,rfl,a,_,rfl,.inl hS,_,_,rfl,_,_,rfl,?_⟩
 rw [length_map]
 generalize hm:(if (if (3:Int) < ((ns.length:Nat):Int) then 3 else ((ns.length:Nat):Int)) > 1 then (if (3:Int) < ((ns.length:Nat):Int) then 3 else ((ns.length:Nat):Int)) else 1)=m
 have hm9:0<=m/\m<=9:=by rw [<- hm];split<;>(try split)<;>omega
 refine ⟨m,rfl,by omega,by omega,?_⟩
 refine Vr (fun i σ H'=>∃ x1 x2 x3 x4 x5 x6,σ=[some (.ref a),x1,x2,x3,x4,x5,x6]/\Sep [(a,ScQ K ns)] H') ⟨_,_,_,_,_,_,rfl,S⟩ ?_ (fun σ H' _=>q H')
 rintro i σ H0 hi ⟨x1,x2,x3,x4,x5,x6,rfl,S0⟩
 refine ⟨_,rfl,_,rfl,a,ns,_,_,rfl,S0.get a,S0,by omega,by omega,fun p H1 s1 S1=>?_⟩
 refine ⟨_,rfl,_,rfl,p,_,3,_,rfl,S1,by omega,by decide,by decide,fun r1 H2 a0 a1 S2=>⟨_,_,rfl,rfl,p,_,(1+r1).toNat,_,by rw [show (((1+r1).toNat:Nat):Int)=1+r1 by omega];rfl,S2,by omega,by omega,by omega,fun nl H3 NS S3 hn0 hnl hnk=>?_⟩⟩
 refine ⟨_,rfl,_,rfl,p,_,3,_,rfl,S3.pull p,by omega,by decide,by decide,fun r2 H4 b0 b1 S4=>⟨_,_,rfl,rfl,p,_,(1+r2).toNat,_,by rw [show (((1+r2).toNat:Nat):Int)=1+r2 by omega];rfl,S4,by omega,by omega,by omega,fun sl H5 SS S5 hs0 hsl hsk=>⟨_,_,rfl,?_⟩⟩⟩
 have S5:=S5.pull p
 refine ⟨rfl,_,rfl,_,rfl,_,rfl,_,rfl,p,_,25,_,rfl,S5,by omega,by decide,by decide,fun r3 H6 c0 c1 S6=>⟨_,_,rfl,rfl,p,nl,sl,_,(1+r3).toNat,3,NS,SS,_,by rw [show (((1+r3).toNat:Nat):Int)=1+r3 by omega];rfl,S6,⟨fun H S=>⟨S.get nl,S.get sl⟩,hn0,hs0,by omega,by omega,hnk,hsk⟩,by decide,by omega,by omega,fun t H7 ps hpm ho hh S7=>?_⟩⟩
 have hrk:=Pg.rk_le ps
 have dt:DatT K H7 (.ref t) (.tuple (Pg.dats ps)):=S7.get t
 have hrw:(ZN ps).map (WC 0++·)=ZN ps:=by
  rw [show (fun x=>WC 0++x)=id from funext ZpR,List.map_id]
 refine ⟨.ref t,0,ps,rfl,dt,ho,by omega,by omega,by omega,fun rl H8 s8 hrl erl=>?_⟩
 rw [hrw] at erl
 refine ⟨Qa "\n",rl,ZN ps,rfl,rfl,SqL.of erl,Zbz ho (by omega) (by omega),?_⟩
 have hnf:nf (ZN ps):=fun r hr=>NG.mpr (Zev ho r hr)
 have hrl2:=Xg ps
 have htl:(QM "\n" (ZN ps)).length<=14000:=by
  have h1:=UA (s:=Qa "\n") (by decide +kernel) (ZN ps)
  have h2:=VL (n:=520) (ZN ps) (fun y hy=>by have:=WU ho y hy;omega)
  unfold wt at h1
  have h3:(ZN ps).length * 520<=25 * 520:=OV _ (by omega)
  have h4:520 * (ZN ps).length<=520 * 25:=Nat.mul_le_mul_left _ (by omega)
  omega
 have htc:Yd (QM "\n" (ZN ps))<=26:=by
  have:=Vy hnf
  omega
 generalize QM "\n" (ZN ps)=tx at htl htc ⊢
 obtain ⟨N0,hN0,S8⟩:∃ N0,N0<=4000/\Sep [(p,Bx N0),(a,ScQ K ns)] H8:=⟨_,by omega,(((S7.drop t).drop sl).drop nl).mono s8⟩
 clear S7 S6 S5 S4 S3 S2 S1 S0
 refine ⟨8,rfl,by decide,by decide,?_⟩
 refine Vr (fun i σ H'=>∃ (y1 y3 y4 x6:Option V) (N:Nat),σ=[some (.ref a),y1,some (.ref p),y3,y4,some (.str tx),x6]/\N<=4000+20 * i/\Sep [(p,Bx N),(a,ScQ K ns)] H') ⟨_,_,_,_,N0,rfl,by omega,S8⟩ ?_ ?_
 ·rintro j σ H9 hj ⟨y1,y3,y4,x6,N,rfl,hN,S9⟩
  replace hj:j < 8:=by first | exact_mod_cast hj | omega
  refine ⟨_,rfl,_,rfl,p,_,tx,_,rfl,S9,by omega,htl,by omega,fun y H10 N' h1 h2 h3 S10=>⟨y,rfl,by omega,by omega,fun H11 s11=>⟨_,rfl,Zw ⟨_,_,_,_,N',rfl,by omega,S10.mono s11⟩⟩⟩⟩
 ·rintro σ H9 ⟨y1,y3,y4,x6,N,rfl,hN,S9⟩
  have hN:N<=4160:=hN
  refine ⟨_,rfl,tx,rfl,by omega,by omega,fun H10 s10=>⟨_,rfl,Zw ?_⟩⟩
  have S10:=S9.mono s10
  refine ⟨4,rfl,by decide,by decide,fun D hD=>?_⟩
  refine Zbg (n:=4) (by decide) S10 hD (fun i ys Δ'=>∃ N,N<=4160+3 * i/\ys=(QI i true).map V.bl/\Δ'=[(p,Bx N),(a,ScQ K ns)]) ⟨N,by omega,rfl,rfl⟩ ?_ ?_
  ·rintro i ys Δ' H11 hi hyl ⟨N,hN,rfl,rfl⟩ S11
   refine ⟨_,rfl,_,rfl,p,_,tx,_,rfl,S11.pull p,by omega,by omega,by omega,fun y H12 N' h1 h2 h3 S12=>⟨y,rfl,by omega,by omega,fun H13 s13=>⟨[(p,Bx N'),(a,ScQ K ns)],⟨N',by omega,?_,rfl⟩,(S12.mono s13).pull D⟩⟩⟩
   rw [JF,map_append];rfl
  ·rintro ys Δ' H11 ⟨N,hN,rfl,rfl⟩ hyl S11
   refine ⟨D,QI 4 true,rfl,SqL.of (S11.get D),⟨_,rfl,Zw ⟨_,_,_,_,_,_,rfl,(S11.drop D).drop p⟩⟩⟩
end
abbrev ZlE (P:Qm)(w:QC)(K:Qb)(mg:Str->Option Qe)(base:Heap):Prop:=Def P w K mg base 1 "_law_take" ["_law_box_here","_law_many"] (ZbU 4611686018427387904)
section
variable {P:Qm}{w:QC}{K:Qb}{mg:Str->Option Qe}{base:Heap}
abbrev vSigns:Str:=ZlK (Us s_l_value)
theorem vs_len:vSigns.length=94:=by decide +kernel
theorem ZnK:vSigns.cps.toList.all Yz=true:=by decide +kernel
abbrev nVv:List Str:=["_law_box_here","_law_way","_law_signs"]
theorem scVal:ZB nVv ["_law_box_here"] (Zl s_l_value):=⟨rfl,rfl,rfl,by decide +kernel,rfl,by decide +kernel,by decide +kernel⟩
theorem ZjI {f:Addr}{fd:Qq}(F:Fun K "_law_value" "_law_value" s_l_value f fd)(T:Ya mg)(D:ZlE P w K mg base):FnOk P w K mg base Yc 2 f fd ["_law_box_here"] ZfK:=by
 refine F.ok scVal (fun vs H Q E h=>?_) (fun cdv A outer s H vs Q E hr h=>?_)
 · obtain ⟨p,n,rfl,_⟩:=h;rfl
 obtain ⟨p,n,rfl,hB,hn,q⟩:=h
 refine ⟨_,Zf (Zr (i:=1) scVal.nd rfl (Qy rfl) (Zu D hr (Zb (pv 0) (Zb Zc Za))))
   (Zf (ZT (ZA UF (pv 1) Zc (ZC _)) (Zh (Zo (Zj Xh (Zu D hr (Zb (pv 0) (Zb Zc Za))) Zc))) ZI)
   (Zf (ZT (ZA Xb (pv 1) Zc (ZC _)) (Zh (Zo (ZG ZR (ZH (Wa (Zj Xh (Zj Zcf Zc Zc) Zc) (Wa (Zj Xh Zc (Zj Zcf Zc Zc)) (Wa (Zj Zcf Zc Zc) (Wa Zc Za rfl) rfl) rfl) rfl)) (Zu D hr (Zb (pv 0) (Zb Zc Za))) (fun _ _=>rfl)))) ZI)
   (Zf (ZT (ZA Xb (pv 1) Zc (ZC _)) (Zh (Zo (ZG ZR (ZH (Wa Zk (Wa Zk (Wa Zk (Wa Zk (Wa Zk (Wa Zk (Wa Zk (Wa Zk Za rfl) rfl) rfl) rfl) rfl) rfl) rfl) rfl)) (Zu D hr (Zb (pv 0) (Zb Zc Za))) (fun _ _=>rfl)))) ZI)
   (Zf (Zr (i:=2) scVal.nd rfl (Rn rfl) Zk)
   (Zh (Zo (ZU Qo QT QU Xp Zk (Zb (XM (CompOk.of nVv s_l_value rfl rfl (by decide +kernel)) rfl
     (Ws rfl T.range (Zb (Zu D hr (Zb (pv 0) (Zb (Yv (ZA Xb (pv 1) Zc (ZC _)) Zc Zc) Za))) Za))
     (fun _ _ _ _ _=>ZG UL (pv 2) (Zu D hr (Zb (pv 0) (Zb (Zm (Zii (K:=K) rfl) rfl T.len Qu (Zb (pv 2) Za)) Za))) (fun _ _=>rfl))) Za)))))))),?_⟩
 refine ⟨_,rfl,p,n,6,rfl,hB,by omega,by decide,by decide,fun r1 H1 a0 a1 B1 k1=>?_⟩
 refine ⟨_,rfl,_,_,rfl,rfl,_,rfl,Vj (fun c=>?_) (fun c=>?_)⟩
 · refine ⟨_,rfl,p,n+1,7,rfl,B1,by omega,by decide,by decide,fun r2 H2 b0 b1 B2 k2=>⟨_,_,rfl,rfl,?_⟩⟩
   exact q _ _ (by show (r2 - 3).natAbs < 10 ^ 30;omega) (B2.le (by omega)) (k1.trans k2)
 refine ⟨_,rfl,rfl,_,rfl,Vj (fun c2=>?_) (fun c2=>?_)⟩
 · refine ⟨_,_,rfl,rfl,⟨by decide,by decide,by decide⟩,_,_,rfl,rfl,_,_,rfl,rfl,⟨by decide,by decide,by decide⟩,_,_,rfl,rfl,_,_,rfl,rfl,⟨by decide,by decide,by decide⟩,(by show 4<=Qi;decide),fun l hl=>?_⟩
   have hne:l≠p:=fun e=>by obtain ⟨_,_,_,z,_⟩:=B1;rw [e,z] at hl;cases hl
   refine ⟨_,rfl,p,n+1,4,rfl,B1.same (Zg hl _),by omega,by decide,by decide,fun r2 H2 b0 b1 B2 k2=>?_⟩
   obtain ⟨v,hv,hm⟩:=ZcU (xs:=([.int (10 ^ (30:Int).toNat - 1),.int (1 - 10 ^ (30:Int).toNat),.int (10 ^ (29:Int).toNat),.int 0]:List V)) b0 b1
   refine ⟨l,_,_,v,rfl,rfl,SqL.of (k2 l _ hne Ze),hv,q _ _ ?_ (B2.le (by omega)) (k1.trans ((Zg hl _).kp p |>.trans k2))⟩
   have all:(([.int (10 ^ (30:Int).toNat - 1),.int (1 - 10 ^ (30:Int).toNat),.int (10 ^ (29:Int).toNat),.int 0]:List V)).all Zhn=true:=by decide +kernel
   exact ZdZ (all_eq_true.mp all v hm)
 refine ⟨_,rfl,rfl,_,rfl,Vj (fun c3=>?_) (fun c3=>?_)⟩
 · refine ⟨(by show 8<=Qi;decide),fun l hl=>?_⟩
   have hne:l≠p:=fun e=>by obtain ⟨_,_,_,z,_⟩:=B1;rw [e,z] at hl;cases hl
   refine ⟨_,rfl,p,n+1,8,rfl,B1.same (Zg hl _),by omega,by decide,by decide,fun r2 H2 b0 b1 B2 k2=>?_⟩
   obtain ⟨v,hv,hm⟩:=ZcU (xs:=([.str "",.str "0",.str "-1",.str "a",.str "none",.str "'",.str "\\", .str " "]:List V)) b0 b1
   refine ⟨l,_,_,v,rfl,rfl,SqL.of (k2 l _ hne Ze),hv,q _ _ ?_ (B2.le (by omega)) (k1.trans ((Zg hl _).kp p |>.trans k2))⟩
   have all:(([.str "",.str "0",.str "-1",.str "a",.str "none",.str "'",.str "\\", .str " "]:List V)).all Zhn=true:=by decide +kernel
   exact ZdZ (all_eq_true.mp all v hm)
 refine ⟨rfl,?_⟩
 have fin:∀ (r2:Int) (H2:Hp),0<=r2->r2 < 41->BoxAt H2 p (n+2)->Kp p H1 H2->∃ j:Int,[V.int r2]=[.int j]/\-(2 ^ 62)<=j/\j < 2 ^ 62/\∀ D,H2 D=none->Vs (Itr 0 j.toNat)
     (tOp rIxS (XV 2) (ZdS (ZbU 4611686018427387904) [] E0 (Xa (XV 0) (Xa (tCB (fun xs H Q=>∃ x n,xs=[x]/\ZkY K x H n/\Q (.int n) H) (Xa (XV 2) Xf)) Xf))))
     [some (.ref p),some (.int r1),some (.str vSigns)] D (fun x H3=>∃ sep a ys,V.str ""=.str sep/\[x]=[.ref a]/\SqL K H3 a (ys.map V.str)/\(ys.map (·.length)).sum+ys.length * sep.length<=16777216/\Q (.str (QM sep ys)) H3) H2:=by
   intro r2 H2 b0 b1 B2 k2
   refine ⟨r2,rfl,by omega,by omega,fun Dl hD=>?_⟩
   have hne:Dl≠p:=fun e=>by obtain ⟨_,_,_,z,_⟩:=B2;rw [e,z] at hD;cases hD
   refine ZgB (Qw (show r2.toNat<=1000 by omega) (len1 (Qh _)))
     (fun i ys H'=>∃ zs:List Str,ys=zs.map V.str/\zs.length=i/\(∀ z∈zs,∃ c,z=⟨#[c]⟩/\Yz c=true)/\H' Dl=some (.lst ys)/\BoxAt H' p (n+2+i)/\Kp p H1 H'/\i<=r2.toNat)
     ⟨[],rfl,rfl,(fun _ h=>nomatch h),Ze,B2.same (Zg hD _),k2.trans ((Zg hD _).kp p),Qp _⟩ ?_ ?_ ?_
   · rintro i ys H' ⟨zs,rfl,hz,_⟩;rw [length_map];exact hz
   · rintro i ys H' hi ⟨zs,rfl,hz,hall,hDl,B',k',_⟩
     refine ⟨_,rfl,_,rfl,_,rfl,_,94,rfl,⟨by rw [vs_len];decide,vs_len.symm⟩,p,n+2+i,94,rfl,B',by omega,by decide,by decide,fun r3 H3 d0 d1 B3 k3=>?_⟩
     have hl:vSigns.cps.toList.length=94:=by rw [<- Zq];exact vs_len
     obtain ⟨c,hc,hm⟩:=ZcU (xs:=vSigns.cps.toList) d0 (by rw [hl];exact d1)
     refine ⟨vSigns,r3,c,rfl,rfl,(by rw [vs_len];decide),hc,k3 Dl _ hne hDl,zs++[⟨#[c]⟩],by rw [map_append];rfl,by rw [length_append,hz];rfl,?_,Ze,?_,fun b o nb e=>?_,hi⟩
     · intro z hz'
       rcases mem_append.mp hz' with h | h
       · exact hall z h
       · rw [mem_singleton.mp h];exact ⟨c,rfl,all_eq_true.mp ZnK c hm⟩
     · obtain ⟨x1,x2,x3,x4,x5⟩:=B3
       exact ⟨x1,x2,x3,by rw [Zn hne.symm];exact x4,x5⟩
     · rw [Zn (ZL (k2 b o nb e) hD)];exact k3 b o nb (k' b o nb e)
   · rintro ys H' ⟨zs,rfl,hz,hall,hDl,B',k',_⟩
     have ones:∀ l:List Str,(∀ z∈l,∃ c,z=⟨#[c]⟩/\Yz c=true)->(l.map (·.length)).sum=l.length/\(l.flatMap (·.cps.toList)).length=l.length/\(l.flatMap (·.cps.toList)).all Yz=true:=by
       intro l
       induction l with
       | nil=>intro _;exact ⟨rfl,rfl,rfl⟩
       | cons z r ih =>
         intro h
         obtain ⟨c,rfl,hc⟩:=h z mem_cons_self
         obtain ⟨g1,g2,g3⟩:=ih fun y hy=>h y (mem_cons_of_mem _ hy)
         refine ⟨?_,?_,?_⟩
         · rw [map_cons,sum_cons,g1,length_cons];show 1+_=_;omega
         · have e0:((⟨#[c]⟩:Str)::r).flatMap (·.cps.toList)=c::r.flatMap (·.cps.toList):=rfl
           rw [e0,length_cons,length_cons,g2]
         · rw [flatMap_cons,all_append,g3];simp [hc]
     obtain ⟨g1,g2,g3⟩:=ones zs hall
     refine ⟨_,Dl,zs,rfl,rfl,SqL.of hDl,?_,q _ _ ⟨?_,?_⟩ (B'.le (by omega)) (k1.trans k')⟩
     · rw [g1];show _+_ * 0<=_;omega
     · rw [Zq];show (QM (Qa "") zs).cps.toList.length<=40;rw [UY,g2];omega
     · show (QM (Qa "") zs).cps.toList.all Yz=true;rw [UY];exact g3
 refine ⟨_,rfl,_,rfl,rfl,_,rfl,Vj (fun c4=>?_) (fun c4=>?_)⟩
 · exact ⟨p,n+1,4,rfl,B1,by omega,by decide,by decide,fun r2 H2 b0 b1 B2 k2=>fin r2 H2 b0 (by omega) B2 k2⟩
 · exact ⟨p,n+1,41,rfl,B1,by omega,by decide,by decide,fun r2 H2 b0 b1 B2 k2=>fin r2 H2 b0 (by omega) B2 k2⟩
end
end K69
namespace K69
open PySem L2
open PySem.W in
theorem all_mk {l:OC}{w:QC}{K:Qb}{h:Heap}{mg:Str->Option Qe}{fa:Addr}
 {f_z0 f_z1 f_z2 f_z3 f_z4 f_z5 f_z6 f_z7 f_z8 f_z9 f_z10 f_z11 f_z12 f_z13 f_z14 f_z15 f_z16 f_z17 f_z18 f_z19 f_z20 f_z21 f_z22 f_z23 f_z24 f_z25 f_z26 f_z27 f_z28 f_z29 f_z30 f_z31 f_z32 f_z33 f_z34 f_z35 f_z36 f_z37 f_z38 f_z39 f_z40 f_z41 f_z42 f_z43 f_z44 f_z45 f_z46 f_z47 f_z48 C_RoadError C_Known C_NoSetting C_Missing C_NoWorld C_NoTask C_BadRow:Addr} {d_z0 d_z1 d_z2 d_z3 d_z4 d_z5 d_z6 d_z7 d_z8 d_z9 d_z10 d_z11 d_z12 d_z13 d_z14 d_z15 d_z16 d_z17 d_z18 d_z19 d_z20 d_z21 d_z22 d_z23 d_z24 d_z25 d_z26 d_z27 d_z28 d_z29 d_z30 d_z31 d_z32 d_z33 d_z34 d_z35 d_z36 d_z37 d_z38 d_z39 d_z40 d_z41 d_z42 d_z43 d_z44 d_z45 d_z46 d_z47 d_z48:Qq} (X:K.In h) (G:h.Ns Qx mg) (hfa:mg "law"=some (.ref fa))
 (gx_RoadError:QE K Qx "RoadError"=some (some (.ref C_RoadError)))
 (gx_Known:QE K Qx "Known"=some (some (.ref C_Known)))
 (gx_NoSetting:QE K Qx "NoSetting"=some (some (.ref C_NoSetting)))
 (gx_Missing:QE K Qx "Missing"=some (some (.ref C_Missing)))
 (gx_NoWorld:QE K Qx "NoWorld"=some (some (.ref C_NoWorld)))
 (gx_NoTask:QE K Qx "NoTask"=some (some (.ref C_NoTask)))
 (gx_BadRow:QE K Qx "BadRow"=some (some (.ref C_BadRow)))
 (h_z0:FM K C_RoadError "__init__" "RoadError.__init__" c_RoadError___init__ f_z0 d_z0)
 (h_z1:FG K "kinds_of" s_kinds_of f_z1 d_z1)
 (h_z2:FG K "has_within" s_has_within f_z2 d_z2)
 (h_z3:FG K "program_within" s_program_within f_z3 d_z3)
 (h_z4:FG K "is_number" s_is_number f_z4 d_z4)
 (h_z5:FG K "value_text" s_value_text f_z5 d_z5)
 (h_z6:FG K "kinds_in_row" s_kinds_in_row f_z6 d_z6)
 (h_z7:FG K "step_row" s_step_row f_z7 d_z7)
 (h_z8:FG K "moved_in" s_moved_in f_z8 d_z8)
 (h_z9:FG K "program_rows" s_program_rows f_z9 d_z9)
 (h_z10:FG K "program_text" s_program_text f_z10 d_z10)
 (h_z11:FG K "is_name" s_is_name f_z11 d_z11)
 (h_z12:FG K "is_value" s_is_value f_z12 d_z12)
 (h_z13:FG K "unslashed" s_unslashed f_z13 d_z13)
 (h_z14:FG K "number_from" s_number_from f_z14 d_z14)
 (h_z15:FG K "value_from" s_value_from f_z15 d_z15)
 (h_z16:FG K "part_from" s_part_from f_z16 d_z16)
 (h_z17:FG K "whole_words" s_whole_words f_z17 d_z17)
 (h_z18:FG K "parts_from" s_parts_from f_z18 d_z18)
 (h_z19:FG K "head_from" s_head_from f_z19 d_z19)
 (h_z20:FG K "heads_from" s_heads_from f_z20 d_z20)
 (h_z21:FG K "program_of" s_program_of f_z21 d_z21)
 (h_z22:FG K "program_from" s_program_from f_z22 d_z22)
 (h_z23:FG K "_law_cell_at" s_l_cell_at f_z23 d_z23)
 (h_z24:FG K "_law_box" s_l_box f_z24 d_z24)
 (h_z25:FG K "_law_take" s_l_take f_z25 d_z25)
 (h_z26:FG K "_law_names" s_l_names f_z26 d_z26)
 (h_z27:FG K "_law_value" s_l_value f_z27 d_z27)
 (h_z28:FG K "_law_called" s_l_called f_z28 d_z28)
 (h_z29:FG K "_law_worth" s_l_worth f_z29 d_z29)
 (h_z30:FG K "_law_program" s_l_program f_z30 d_z30)
 (h_z31:FG K "_law_written" s_l_written f_z31 d_z31)
 (h_z32:FG K "_law_rows" s_l_rows f_z32 d_z32)
 (h_z33:FG K "_law_cut" s_l_cut f_z33 d_z33)
 (h_z34:FG K "_law_is_name" s_l_is_name f_z34 d_z34)
 (h_z35:FG K "_law_number_at" s_l_number_at f_z35 d_z35)
 (h_z36:FG K "_law_value_at" s_l_value_at f_z36 d_z36)
 (h_z37:FG K "_law_step" s_l_step f_z37 d_z37)
 (h_z38:FG K "_law_refused" s_l_refused f_z38 d_z38)
 (h_z39:FG K "_law_same" s_l_same f_z39 d_z39)
 (h_z40:FG K "_law_read" s_l_read f_z40 d_z40)
 (h_z41:FG K "_law_built" s_l_built f_z41 d_z41)
 (h_z42:FG K "_law_sign_bent" s_l_sign_bent f_z42 d_z42)
 (h_z43:FG K "_law_row_bent" s_l_row_bent f_z43 d_z43)
 (h_z44:FG K "_law_rows_bent" s_l_rows_bent f_z44 d_z44)
 (h_z45:FG K "_law_opened" s_l_opened f_z45 d_z45)
 (h_z46:FG K "_law_bent" s_l_bent f_z46 d_z46)
 (h_z47:FG K "_law_right" s_l_right f_z47 d_z47)
 (h_z48:FG K "law" s_law f_z48 d_z48)
 (z_len:QE K Qx "len"=some none)
 (z_abs:QE K Qx "abs"=some none)
 (z_int:QE K Qx "int"=some none)
 (z_range:QE K Qx "range"=some none)
 (z_min:QE K Qx "min"=some none)
 (z_max:QE K Qx "max"=some none)
 (z_repr:QE K Qx "repr"=some none)
 (z_enumerate:QE K Qx "enumerate"=some none)
 (z_ord:QE K Qx "ord"=some none)
 (z_list:QE K Qx "list"=some none)
 (z_tuple:QE K Qx "tuple"=some none)
 (z_dict:QE K Qx "dict"=some none)
 (z_sorted:QE K Qx "sorted"=some none)
 (z_sum:QE K Qx "sum"=some none)
 (z_all:QE K Qx "all"=some none)
 (z_any:QE K Qx "any"=some none)
 (z_divmod:QE K Qx "divmod"=some none)
 (z_str:QE K Qx "str"=some none)
 (z_isinstance:QE K Qx "isinstance"=some none)
 (z_set:QE K Qx "set"=some none)
 (z_zip:QE K Qx "zip"=some none)
 (z_reversed:QE K Qx "reversed"=some none)
 (z_bool:QE K Qx "bool"=some none)
 {dk:Addr}
 (kd:QE K Qx "KINDS"=some (some (.ref dk)))
 {kb0 kb1 kb2 kb3 kb4 kb5 kb6 kb7:Addr} {kh0 kh1 kh2 kh3 kh4 kh5 kh6 kh7:Int} {kt0 kt1 kt2 kt3 kt4 kt5 kt6 kt7:Tok} {kep:Nat}
 (kl:K.lookup dk=some ⟨.type "dict",none,.dict #[⟨kh0,.str "set" kt0,.ref kb0⟩,⟨kh1,.str "look" kt1,.ref kb1⟩,⟨kh2,.str "back" kt2,.ref kb2⟩,⟨kh3,.str "begin" kt3,.ref kb3⟩,⟨kh4,.str "late" kt4,.ref kb4⟩,⟨kh5,.str "copy" kt5,.ref kb5⟩,⟨kh6,.str "in" kt6,.ref kb6⟩,⟨kh7,.str "pass" kt7,.ref kb7⟩] kep,#[]⟩)
 (ks:(dk == PySem.sysModules)=false)
 {ku0_0 ku0_1 ku0_2:Tok} {kn0:Nat} {kq0:Option Addr} {ko0:Array (Option Qe)}
 (km0:K.lookup kb0=some ⟨.type "tuple",kq0,.seq #[.str "name" ku0_0,.str "value" ku0_1,.str "slot" ku0_2] kn0,ko0⟩)
 {ku1_0:Tok} {kn1:Nat} {kq1:Option Addr} {ko1:Array (Option Qe)}
 (km1:K.lookup kb1=some ⟨.type "tuple",kq1,.seq #[.str "name" ku1_0] kn1,ko1⟩)
 {ku2_0:Tok} {kn2:Nat} {kq2:Option Addr} {ko2:Array (Option Qe)}
 (km2:K.lookup kb2=some ⟨.type "tuple",kq2,.seq #[.str "slot" ku2_0] kn2,ko2⟩)
 {ku3_0:Tok} {kn3:Nat} {kq3:Option Addr} {ko3:Array (Option Qe)}
 (km3:K.lookup kb3=some ⟨.type "tuple",kq3,.seq #[.str "program" ku3_0] kn3,ko3⟩)
 {ku4_0:Tok} {kn4:Nat} {kq4:Option Addr} {ko4:Array (Option Qe)}
 (km4:K.lookup kb4=some ⟨.type "tuple",kq4,.seq #[.str "program" ku4_0] kn4,ko4⟩)
 {ku5_0:Tok} {kn5:Nat} {kq5:Option Addr} {ko5:Array (Option Qe)}
 (km5:K.lookup kb5=some ⟨.type "tuple",kq5,.seq #[.str "slot" ku5_0] kn5,ko5⟩)
 {ku6_0 ku6_1:Tok} {kn6:Nat} {kq6:Option Addr} {ko6:Array (Option Qe)}
 (km6:K.lookup kb6=some ⟨.type "tuple",kq6,.seq #[.str "slot" ku6_0,.str "program" ku6_1] kn6,ko6⟩)
 {kn7:Nat} {kq7:Option Addr} {ko7:Array (Option Qe)}
 (km7:K.lookup kb7=some ⟨.type "tuple",kq7,.seq #[] kn7,ko7⟩)
 (zNB:QE K PySem.cStatics PySem.sharingNotToldKey=some none)
 {tf:Tok}
 (gFI:QE K Qx "FURTHER_IN"=some (some (.str "  " tf)))
 {tLN:Tok}
 (gLN:QE K Qx "LONGEST_NAME"=some (some (.int 8 tLN)))
 {tMF:Tok}
 (gMF:QE K Qx "MOST_FIGURES"=some (some (.int 30 tMF)))
 {tMS:Tok}
 (gMS:QE K Qx "MOST_SIGNS"=some (some (.int 40 tMS)))
 (zVE:QE K Qx "ValueError"=some none)
 (x_BadRow:Zhg K C_RoadError C_BadRow f_z0 [C_BadRow] [C_Known,C_Missing,C_NoSetting,C_NoTask,C_NoWorld] [] 0=true) :
 ∃ fd:Qq,(∀ (s:Qg) (v:Qe),Oi s fd ⟨[v],[]⟩ [("_law_script",v)])/\∀ base:Heap,K.In base->base.Ns Qx mg->ZcH base mg->FnOk l.prog w K mg base Yc 203 fa fd ["_law_script"] (ZdN K):=by
 have e:=hfa.symm.trans (JM X G h_z48.a)
 cases e
 have n_len:=Gg X G z_len
 have n_abs:=Gg X G z_abs
 have n_int:=Gg X G z_int
 have n_range:=Gg X G z_range
 have n_min:=Gg X G z_min
 have n_max:=Gg X G z_max
 have n_repr:=Gg X G z_repr
 have n_enumerate:=Gg X G z_enumerate
 have n_ord:=Gg X G z_ord
 have n_list:=Gg X G z_list
 have n_tuple:=Gg X G z_tuple
 have n_dict:=Gg X G z_dict
 have n_sorted:=Gg X G z_sorted
 have n_sum:=Gg X G z_sum
 have n_all:=Gg X G z_all
 have n_any:=Gg X G z_any
 have n_divmod:=Gg X G z_divmod
 have n_str:=Gg X G z_str
 have n_isinstance:=Gg X G z_isinstance
 have n_set:=Gg X G z_set
 have n_zip:=Gg X G z_zip
 have n_reversed:=Gg X G z_reversed
 have n_bool:=Gg X G z_bool
 have g_kd:=JM X G kd
 have g_gFI:=JM X G gFI
 have g_gLN:=JM X G gLN
 have g_gMF:=JM X G gMF
 have g_gMS:=JM X G gMS
 have g_RoadError:=JM X G gx_RoadError
 have g_Known:=JM X G gx_Known
 have g_NoSetting:=JM X G gx_NoSetting
 have g_Missing:=JM X G gx_Missing
 have g_NoWorld:=JM X G gx_NoWorld
 have g_NoTask:=JM X G gx_NoTask
 have g_BadRow:=JM X G gx_BadRow
 have TB:Ya mg:=⟨n_len,n_abs,n_int,n_range,n_min,n_max,n_repr,n_enumerate,n_ord,n_list,n_tuple,n_dict,n_sorted,n_sum,n_all,n_any,n_divmod,n_str,n_isinstance,n_set,n_zip,n_reversed,n_bool⟩
 have TK:KDic K dk Wc:=⟨ks,_,_,_,kl,⟨rfl,rfl,rfl⟩,rfl,(.cons rfl ⟨_,rfl,_,_,_,km0,rfl,rfl,(show 3<=Qi by decide),(.cons ⟨_,rfl⟩ (.cons ⟨_,rfl⟩ (.cons ⟨_,rfl⟩ .nil)))⟩ (.cons rfl ⟨_,rfl,_,_,_,km1,rfl,rfl,(show 1<=Qi by decide),(.cons ⟨_,rfl⟩ .nil)⟩ (.cons rfl ⟨_,rfl,_,_,_,km2,rfl,rfl,(show 1<=Qi by decide),(.cons ⟨_,rfl⟩ .nil)⟩ (.cons rfl ⟨_,rfl,_,_,_,km3,rfl,rfl,(show 1<=Qi by decide),(.cons ⟨_,rfl⟩ .nil)⟩ (.cons rfl ⟨_,rfl,_,_,_,km4,rfl,rfl,(show 1<=Qi by decide),(.cons ⟨_,rfl⟩ .nil)⟩ (.cons rfl ⟨_,rfl,_,_,_,km5,rfl,rfl,(show 1<=Qi by decide),(.cons ⟨_,rfl⟩ .nil)⟩ (.cons rfl ⟨_,rfl,_,_,_,km6,rfl,rfl,(show 2<=Qi by decide),(.cons ⟨_,rfl⟩ (.cons ⟨_,rfl⟩ .nil))⟩ (.cons rfl ⟨_,rfl,_,_,_,km7,rfl,rfl,(show 0<=Qi by decide),.nil⟩ .nil))))))))⟩
 have TE:TxtE K mg C_RoadError C_BadRow [C_Known,C_Missing,C_NoSetting,C_NoTask,C_NoWorld]:=⟨g_RoadError,g_BadRow,Gg X G zVE,rfl,g_Known,g_Missing,g_NoSetting,g_NoTask,g_NoWorld,(ZhK x_BadRow).1⟩
 refine ⟨d_z48,fun s v=>Zis h_z48.F (fun _ _ _ _ _ _ _=>rfl) s v,fun base _ _ hBm=>?_⟩
 have e:Bs l.prog w K mg base h:=⟨X,G⟩
 have b_z0:Binds K d_z0 ["self","what"] []:=h_z0.F.b2 fun _ _ _ _ _ _ _ _=>rfl
 have D_BadRow:ZkS l.prog w K mg base 5 C_BadRow "BadRow":=⟨_,_,(ZkC h_z0.F).mono (by decide),b_z0,(ZhK x_BadRow).2 h_z0.m.fn,g_BadRow⟩
 have D_z1:=h_z1.df e (ZjG h_z1.F TK g_kd) (h_z1.F.b1 fun _ _ _ _ _ _ _=>rfl)
 have D_z2:=h_z2.df e (Zmj h_z2.F D_z1) (h_z2.F.b1 fun _ _ _ _ _ _ _=>rfl)
 have D_z3:=h_z3.df e (Zil h_z3.F D_z2) (h_z3.F.b1 fun _ _ _ _ _ _ _=>rfl)
 have b_z4:Binds K d_z4 ["thing"] []:=h_z4.F.b1 fun _ _ _ _ _ _ _=>rfl
 have DNu1:ZjV l.prog w K mg base 1 "is_number" "thing" ZdO:=⟨_,_,ZnO h_z4.F TB,b_z4,h_z4.F.kp,(JM X G h_z4.a)⟩
 have D_z5:=h_z5.df e (ZpN h_z5.F TB zNB DNu1) (h_z5.F.b1 fun _ _ _ _ _ _ _=>rfl)
 have D_z6:=h_z6.df e (ZpD h_z6.F TB D_z1) (h_z6.F.b1 fun _ _ _ _ _ _ _=>rfl)
 have D_z7:=h_z7.df e (ZpK h_z7.F TB D_z5 D_z6) (h_z7.F.b1 fun _ _ _ _ _ _ _=>rfl)
 have D_z8:=h_z8.df e (Zpk h_z8.F g_gFI) (h_z8.F.b1 fun _ _ _ _ _ _ _=>rfl)
 have b_z9:Binds K d_z9 ["program"] []:=h_z9.F.b1 fun _ _ _ _ _ _ _=>rfl
 have D_z9:Def l.prog w K mg base 104 "program_rows" Zbo (ZeZ K 100):=⟨_,_,ZlJ h_z9.F TB b_z9 h_z9.F.kp (JM X G h_z9.a) D_z3 D_z7 (D_z8.mono (by decide)) 100,b_z9,h_z9.F.kp,(JM X G h_z9.a)⟩
 have D_z10:=h_z10.df e (Zpt h_z10.F TB D_z9) (h_z10.F.b1 fun _ _ _ _ _ _ _=>rfl)
 have D_z11:=h_z11.df e (Zie h_z11.F TB g_gLN) (h_z11.F.b1 fun _ _ _ _ _ _ _=>rfl)
 have D_z12:=h_z12.df e (ZgY h_z12.F TB) (h_z12.F.b1 fun _ _ _ _ _ _ _=>rfl)
 have D_z13:=h_z13.df e (ZmQ h_z13.F TB) (h_z13.F.b1 fun _ _ _ _ _ _ _=>rfl)
 have D_z14:=h_z14.df e (ZlW h_z14.F TB) (h_z14.F.b2 fun _ _ _ _ _ _ _ _=>rfl)
 have D_z15:=h_z15.df e (ZmH h_z15.F TB g_gMF g_gMS (D_z14.mono (by decide)) (D_z13.mono (by decide)) (D_z12.mono (by decide)) D_z5) (h_z15.F.b1 fun _ _ _ _ _ _ _=>rfl)
 have D_z16:=h_z16.df e (Zlk h_z16.F TB D_z15 (D_z11.mono (by decide))) (h_z16.F.b2 fun _ _ _ _ _ _ _ _=>rfl)
 have D_z17:=h_z17.df e (ZjD h_z17.F TB) (h_z17.F.b2 fun _ _ _ _ _ _ _ _=>rfl)
 have D_z18:=h_z18.df e (Zkq h_z18.F TB (D_z17.mono (by decide)) D_z16) (h_z18.F.b2 fun _ _ _ _ _ _ _ _=>rfl)
 have D_z19:=h_z19.df e (Zli h_z19.F TB (D_z1.mono (by decide)) (D_z6.mono (by decide)) D_z18) (h_z19.F.b1 fun _ _ _ _ _ _ _=>rfl)
 have b_z20:Binds K d_z20 ["rows","first"] []:=h_z20.F.b2 fun _ _ _ _ _ _ _ _=>rfl
 have D_z20:Def l.prog w K mg base 7 "heads_from" Zbx Zjv:=⟨_,_,ZiW h_z20.F TB g_gFI D_z19 (D_z2.mono (by decide)),b_z20,h_z20.F.kp,(JM X G h_z20.a)⟩
 have DX_heads_from:Zkr l.prog w K mg base 7 "heads_from" Zbx (ZgH C_BadRow):=⟨_,_,Zgn h_z20.F TB g_gFI D_z19 (D_z2.mono (by decide)) D_BadRow,b_z20,h_z20.F.kp,(JM X G h_z20.a)⟩
 have D_z21:=h_z21.df e (Zjo h_z21.F TB D_z2) (h_z21.F.b1 fun _ _ _ _ _ _ _=>rfl)
 have b_z22:Binds K d_z22 ["text"] []:=h_z22.F.b1 fun _ _ _ _ _ _ _=>rfl
 have D_z22:Def l.prog w K mg base 8 "program_from" ZaL (ZjU K):=⟨_,_,Zfg h_z22.F TB D_z20 (D_z21.mono (by decide)),b_z22,h_z22.F.kp,(JM X G h_z22.a)⟩
 have OPB:=Zeg (P:=l.prog) (w:=w) (base:=base) h_z22.F TB DX_heads_from (D_z21.mono (by decide))
 have D_z23:=h_z23.df e (Zmy h_z23.F TB) (h_z23.F.b2 fun _ _ _ _ _ _ _ _=>rfl)
 have D_z24:=h_z24.df e (FnOk.conv (sp':=ZeY K) (ZoX h_z24.F TB D_z23) (fun _ _ _ _ h=>Zpi h)) (h_z24.F.b2 fun _ _ _ _ _ _ _ _=>rfl)
 have b_z25:Binds K d_z25 ["_law_box_here","_law_many"] []:=h_z25.F.b2 fun _ _ _ _ _ _ _ _=>rfl
 have DT0:ZlE l.prog w K mg base:=⟨_,_,Zmg h_z25.F,b_z25,h_z25.F.kp,(JM X G h_z25.a)⟩
 have D_z25:DTk l.prog w K mg base 1:=DT0.conv fun _ _ _ _ h=>Zny h
 have D_z26:=h_z26.df e (Zju h_z26.F TB D_z25) (h_z26.F.b2 fun _ _ _ _ _ _ _ _=>rfl)
 have D_z27:=h_z27.df e (FnOk.conv (sp':=Zbp) (ZjI h_z27.F TB DT0) (fun _ _ _ _ h=>Zmh h)) (h_z27.F.b1 fun _ _ _ _ _ _ _=>rfl)
 have D_z28:=h_z28.df e (Zpg h_z28.F TB (D_z25.mono (by decide)) D_z26) (h_z28.F.b2 fun _ _ _ _ _ _ _ _=>rfl)
 have D_z29:=h_z29.df e (Zpv h_z29.F TB (D_z25.mono (by decide)) D_z27) (h_z29.F.b1 fun _ _ _ _ _ _ _=>rfl)
 have b_z30:Binds K d_z30 ["_law_box_here","_law_names_here","_law_slots","_law_many","_law_blocks"] []:=h_z30.F.b5 fun _ _ _ _ _ _ _ _ _ _ _=>rfl
 have OPG:=ZlF h_z30.F TB b_z30 h_z30.F.kp (JM X G h_z30.a) (D_z25.mono (by decide)) D_z29
 have D_z30:Def l.prog w K mg base 7 "_law_program" ZbA (Zbs K 3):=⟨_,_,OPG 3,b_z30,h_z30.F.kp,(JM X G h_z30.a)⟩
 have D_z31:=h_z31.df e (Zgz h_z31.F TB) (h_z31.F.b1 fun _ _ _ _ _ _ _=>rfl)
 have b_z32:Binds K d_z32 ["_law_program_here","_law_blanks"] []:=h_z32.F.b2 fun _ _ _ _ _ _ _ _=>rfl
 have D_z32:Def l.prog w K mg base 12 "_law_rows" ZbH (ZeC K 10):=⟨_,_,ZlG h_z32.F TB b_z32 h_z32.F.kp (JM X G h_z32.a) D_z31 10,b_z32,h_z32.F.kp,(JM X G h_z32.a)⟩
 have D_z33:=h_z33.df e (ZnL h_z33.F TB) (h_z33.F.b1 fun _ _ _ _ _ _ _=>rfl)
 have D_z34:=h_z34.df e (Zod h_z34.F TB) (h_z34.F.b1 fun _ _ _ _ _ _ _=>rfl)
 have D_z35:=h_z35.df e (ZkA h_z35.F TB D_z33) (h_z35.F.b1 fun _ _ _ _ _ _ _=>rfl)
 have D_z36:=h_z36.df e (ZkX h_z36.F TB D_z35) (h_z36.F.b1 fun _ _ _ _ _ _ _=>rfl)
 have D_z37:=h_z37.df e (Zna h_z37.F TB (D_z33.mono (by decide)) (D_z34.mono (by decide)) D_z36) (h_z37.F.b1 fun _ _ _ _ _ _ _=>rfl)
 have D_z38:=h_z38.df e (Zgm (kk:=8) h_z38.F TB TE) (h_z38.F.b2 fun _ _ _ _ _ _ _ _=>rfl)
 have b_z39:Binds K d_z39 ["_law_found","_law_due"] []:=h_z39.F.b2 fun _ _ _ _ _ _ _ _=>rfl
 have D_z39:Def l.prog w K mg base 201 "_law_same" ZbK (ZaI K 200):=⟨_,_,ZfQ h_z39.F TB b_z39 h_z39.F.kp (JM X G h_z39.a) 200,b_z39,h_z39.F.kp,(JM X G h_z39.a)⟩
 have D_z40:=h_z40.df e (ZlR h_z40.F TB D_z37) (h_z40.F.b1 fun _ _ _ _ _ _ _=>rfl)
 have b_z41:Binds K d_z41 ["_law_found","_law_depth"] []:=h_z41.F.b2 fun _ _ _ _ _ _ _ _=>rfl
 have D_z41:Def l.prog w K mg base 101 "_law_built" Zbw (Zex K 100):=⟨_,_,ZdY h_z41.F TB b_z41 h_z41.F.kp (JM X G h_z41.a) 100,b_z41,h_z41.F.kp,(JM X G h_z41.a)⟩
 have D_z42:=h_z42.df e (Zjx h_z42.F TB D_z25) (h_z42.F.b2 fun _ _ _ _ _ _ _ _=>rfl)
 have D_z43:=h_z43.df e (ZjP h_z43.F TB D_z25) (h_z43.F.b2 fun _ _ _ _ _ _ _ _=>rfl)
 have D_z44:=h_z44.df e (ZiS h_z44.F TB (D_z25.mono (by decide)) D_z43) (h_z44.F.b2 fun _ _ _ _ _ _ _ _=>rfl)
 have D_z45:=h_z45.df e (Ziw h_z45.F TB D_z25) (h_z45.F.b2 fun _ _ _ _ _ _ _ _=>rfl)
 have D_z46:=h_z46.df e (Zml h_z46.F TB (D_z25.mono (by decide)) (D_z42.mono (by decide)) D_z44) (h_z46.F.b2 fun _ _ _ _ _ _ _ _=>rfl)
 have D_z47:=h_z47.df e (ZkV h_z47.F TB (D_z40.mono (by decide)) (D_z41.mono (by decide)) (D_z10.mono (by decide)) (D_z22.mono (by decide)) D_z39 (D_z38.mono (by decide)) OPB b_z22 h_z22.F.kp (JM X G h_z22.a)) (h_z47.F.b1 fun _ _ _ _ _ _ _=>rfl)
 exact Znq (k:=202) h_z48.F TB (D_z25.mono (by decide)) (D_z24.mono (by decide)) (D_z28.mono (by decide)) (D_z30.mono (by decide)) (D_z32.mono (by decide)) D_z47 (D_z46.mono (by decide)) (D_z45.mono (by decide))
theorem walk {l:OC}{q:Qm}{loose:List Str}{XP:(Str->Option Qe)->Heap->Prop}{YP:QC->Heap->Prop}{d:DefRec}{K:Params->Qb}{ts:List Addr}(hn:l.most=some 63)(hdf:d.params.defaults=[])
 (hY:∀ (w:QC) (h:Heap),YP w h->(K w.params).In h/\∀ b∈ts,h.get? b=some (PySem.W.tabObj #[]))
 (hK:∀ (w:QC) (b:Addr),b∈ts->(K w.params).lookup b=none/\∃ c,PySem.W.codeHdIn (K w.params) c b=true)
 (F:∀ (w:QC) (mg:Str->Option Qe) (fa:Addr) (h:Heap),(K w.params).In h->h.Ns Qx mg->mg d.name=some (.ref fa) ->
  ∃ fd:Qq,(∀ (s:Qg) (u:Qe),Oi s fd ⟨[u],[]⟩ [("_law_script",u)])/\∀ base:Heap,(K w.params).In base->base.Ns Qx mg->ZcH base mg->FnOk l.prog w (K w.params) mg base Yc 203 fa fd ["_law_script"] (ZdN (K w.params))) :
 PySem.W.WalkO q loose XP YP l.row.toRowW d [] (fun f vs=>PySem.call f vs) :=
 L2.walk_ofT (n:=63) (k:=203) (x:="_law_script") (CX:=fun _=>Yc) (sp:=fun w=>ZdN (K w.params)) (ts:=ts) hn (by decide) hdf ⟨rfl,by decide,by decide,rfl⟩ hY hK F (fun w H a ns hl hO hS hT=>⟨a,ns,rfl,hS,hl,fun _=>rfl⟩) fun _ _ _ _ _ z=>z
end K69
namespace PySem.W.Fast
def tw5591796310201320627 := 0
def tw9238953949001943943 := 0
def tw11568818538090410722 := 0
def tw6170549495903656047 := 0
def tw3757122922523414946 := 0
def tw13207240122601544813 := 0
def tw3026258243449466144 := 0
def tw10911089570056839047 := 0
def tw17303156672040884496 := 0
def tw17210842796010597927 := 0
def tw2286945327207436470 := 0
def tw11620829883572843971 := 0
def tw5384296701443937567 := 0
def tw9259534521783878987 := 0
def tw12433426905676319201 := 0
def tw3839052485631070481 := 0
def tw8352763258705160498 := 0
def tw17109718974998551407 := 0
def tw10210064106787053781 := 0
def tw11934068868632021126 := 0
def tw16528011573928623895 := 0
def tw490448609229553592 := 0
def tw4668959944173708146 := 0
def tw11843427257688004538 := 0
def tw17734468802607788034 := 0
def tw3772193562756794798 := 0
def tw3050717260420082507 := 0
def tw1496691201509302176 := 0
def tw10933652763784059443 := 0
def tw97186172706265665 := 0
def tw17590412038720789175 := 0
def tw16243714224499520855 := 0
def tw8724857427472995565 := 0
def tw16933777412582836900 := 0
def tw14801069753517910002 := 0
def tw5465800961690556070 := 0
def tw17271241057077790794 := 0
def tw12275972623423704747 := 0
def tw16139824120694884234 := 0
def tw6730443345275735567 := 0
def tw8863912335152548699 := 0
def tw6053450778530159409 := 0
def tw5815343180385186480 := 0
def tw17421845413839491427 := 0
def tw6715545245768594168 := 0
def tw7656826430369467830 := 0
def tw11309533325626710368 := 0
def tw7143447883394520783 := 0
def tw11584116678663102618 := 0
def tw5624124043197888434 := 0
def tw305370616080531129 := 0
def tw5525086999734723281 := 0
def tw7726416810165389924 := 0
def tw10596488207401493407 := 0
def tw2143104040227631568 := 0
def tw17541721519347199061 := 0
def tw7990471945264143279 := 0
def tw11642607815290806258 := 0
def tw7128784675702590210 := 0
def tw4568434846406520454 := 0
def tw3280624911004712493 := 0
def tw12953827734055410421 := 0
def tw11152148011469658453 := 0
def tw9428149645795620314 := 0
def tw4172962333391553848 := 0
def tw13496411451207430977 := 0
def tw8173922122399737919 := 0
def tw345995765701499352 := 0
def tw6434294566691492946 := 0
def tw12174554640615718075 := 0
def tw13814275070968930221 := 0
def tw12700486298958098440 := 0
def tw958790348051102256 := 0
def tw4989908636801219981 := 0
def tw16396130803947611719 := 0
def tw3455115014274507050 := 0
def tw16942362756855836003 := 0
def tw13634066578206552579 := 0
def tw10379095349140580027 := 0
def tw14962467958595662062 := 0
def tw13610227844503352589 := 0
def tw3256240284402202056 := 0
def tw14570202944324970957 := 0
def tw18102546672743690541 := 0
def tw4191381840311852804 := 0
def tw14462344013000134593 := 0
def tw9603742124770110546 := 0
def tw7241171993725893047 := 0
def tw7261476679559029803 := 0
def tw16318332237661569472 := 0
def tw14599195414371677102 := 0
def tw16628463036263319315 := 0
def tw12572560674922156940 := 0
def tw7537763630508938811 := 0
def tw16308226547468301456 := 0
def tw4136020182896713639 := 0
def tw6063544015594666269 := 0
def tw11503042359415378249 := 0
def tw9048683265451102556 := 0
def tw10153128785077130684 := 0
def tw17018792720506434203 := 0
def tw4911692585692624080 := 0
def tw16768635042155926594 := 0
def tw15036029579325407995 := 0
def tw10767058608059130098 := 0
def tw14059733242285649351 := 0
def tw6848174290464521830 := 0
def tw8134590345408824966 := 0
def tw8226717769455280055 := 0
def tw15024056044840136619 := 0
def tw11974283557011033478 := 0
def tw16260370899817844656 := 0
def tw4220071159863463485 := 0
def tw18165639319935497202 := 0
def tw6171347098232421497 := 0
def tw6052700229868514514 := 0
def tw12078196415232915128 := 0
def tw8077625711856457993 := 0
def tw8689413821027520420 := 0
def tw5972669824771103884 := 0
def tw13937107457540638878 := 0
def tw8843557988698882659 := 0
def tw1771708037443992210 := 0
def tw5352663180874045541 := 0
def tw17856086448937554004 := 0
def tw4588864030152066923 := 0
def tw62647986024594763 := 0
def tw17274377945706102475 := 0
def tw16190342687491069581 := 0
def tw14116236764033277359 := 0
def tw565955964659986246 := 0
def tw14000702277536447829 := 0
def tw12197835195220558629 := 0
def tw17429821960801308122 := 0
def tw487584072240378886 := 0
def tw17080955384780994040 := 0
def tw11157203514323414654 := 0
def tw12898719613841804780 := 0
def tw9535095077986577452 := 0
def tw856004296567113819 := 0
def tw16651967551366753090 := 0
def tw18186544158379093733 := 0
def tw13924864051603545428 := 0
def tw5225638872110716984 := 0
def tw2838137894118571387 := 0
def tw17506011875387689247 := 0
def tw56287481115738753 := 0
def tw13774245249010030555 := 0
def tw11366414435068273953 := 0
def tw3486723836613448550 := 0
def tw14660740114596814421 := 0
def tw3927540302223399595 := 0
def tw12191119855086496692 := 0
def tw6053372486389940626 := 0
def tw5311414039303990997 := 0
def tw7632309286807173463 := 0
def tw482220383008346611 := 0
def tw6762983075462113178 := 0
def tw1906983574147065383 := 0
def tw18120439005976517270 := 0
def tw14001667642441652562 := 0
def tw10323427773050564002 := 0
def tw8840495424346408229 := 0
def tw672699400868859025 := 0
def tw5732072016258139125 := 0
def tw17560794440144805940 := 0
def tw8089219187002053385 := 0
def tw9313456301778523387 := 0
def tw16915434621479250244 := 0
def tw16428882431313402820 := 0
def tw7485435147581706098 := 0
def tw2665635561889516608 := 0
def tw13867593525085754335 := 0
def tw8834624493403850883 := 0
def tw11879124441098816562 := 0
def tw9592996862798069406 := 0
def tw8931375268028625290 := 0
def tw4065002555645546364 := 0
def tw2475824183578076015 := 0
def tw15075378829570210983 := 0
def tw10835145210822718578 := 0
def tw16464921242448222578 := 0
def tw18257651156408844836 := 0
def tw871706841116339539 := 0
def tw15092233054011048556 := 0
def tw7967533052936527494 := 0
def tw3506902795367543863 := 0
def tw16820696267422992969 := 0
def tw13482509834591384602 := 0
def tw9504909257215041273 := 0
def tw6930138161903721040 := 0
def tw11421108827540106914 := 0
def tw10716020399448515350 := 0
def tw12692277584023581548 := 0
def tw2131327439782684486 := 0
def tw3239297384867058282 := 0
def tw3177952919655519719 := 0
def tw4431075591348181613 := 0
def tw13780001204755184201 := 0
def tw5918163868715730045 := 0
def tw3558674920369325484 := 0
def tw2140849294068798425 := 0
def tw12003505156789569436 := 0
def tw5785932307164348052 := 0
def tw1218881165974196903 := 0
def tw7117509038876892651 := 0
def tw5164466723342603527 := 0
def tw4745485765105925111 := 0
def tw3511486753891064926 := 0
def tw2646727404136869786 := 0
def tw15500504411953474529 := 0
def tw14706691617142879168 := 0
def tw1250803350518111829 := 0
def tw10348792649746838207 := 0
def tw10116216685875223 := 0
def tw16903374473711856343 := 0
def tw9818735875351513589 := 0
def tw943537411460758957 := 0
def tw8958884723568969180 := 0
def tw8549414989380443728 := 0
def tw6167467068348638166 := 0
def tw5659674124171249952 := 0
def tw5603796565918733676 := 0
def tw4971442165062723400 := 0
def tw4810264824707924648 := 0
def tw4145463870697498004 := 0
def tw4013988073956860268 := 0
def tw3399070950511919822 := 0
def tw3298547457997736679 := 0
def tw2721073592803120416 := 0
def tw18397046027006692082 := 0
def tw18179655117228985266 := 0
def tw17974651892473051013 := 0
def tw17164248417625665994 := 0
def tw16882116398882242210 := 0
def tw15988579948855927920 := 0
def tw15438642491265293612 := 0
def tw15412880977781766822 := 0
def tw1463562370644929465 := 0
def tw13779097594178484689 := 0
def tw1376669401559460354 := 0
def tw1365557015280976963 := 0
def tw11974926484288807444 := 0
def tw11812038755379905184 := 0
def tw11500031363636435610 := 0
def tw11171207602728691356 := 0
def tw10596735454073785769 := 0
def tw1735049241176999624 := 0
def tw4404034731112102067 := 0
def tw12425086011973212171 := 0
def tw9293255842442259078 := 0
def tw7861200539004131835 := 0
def tw14461074005613048713 := 0
def tw6619585948493415999 := 0
def tw2312985427776857559 := 0
def tw2034525733421892444 := 0
def tw15600434432214914476 := 0
def tw13557511377881266898 := 0
def tw11830736987912390254 := 0
def tw787406110035252329 := 0
def tw4355337262596171339 := 0
def tw3289852264338146042 := 0
def tw12226864389326296302 := 0
def tw9884099821549773038 := 0
def tw1655040444229489031 := 0
def tw2220153717899626390 := 0
def tw17576506057281983731 := 0
def tw9598943066924853317 := 0
def tw8503065878384204718 := 0
def tw8399386933098575094 := 0
def tw6691672169840999153 := 0
def tw4015439578743717830 := 0
def tw16863553766760718682 := 0
def tw13293724654025966515 := 0
def tw1221041324590336593 := 0
def tw11501934828476931613 := 0
def tw11494243481212665315 := 0
def tw10214948662902377924 := 0
def tw242469832132879935 := 0
def tw11939981293313107474 := 0
def tw8437136590266973955 := 0
def tw18204523400211078071 := 0
def tw16730776607427309503 := 0
def tw11966295746165868902 := 0
def tw10387974989097847735 := 0
def tw7719447635328517647 := 0
def tw5113714323041066179 := 0
def tw15013157329258315372 := 0
def tw1499526287864369002 := 0
def tw11675334604604782385 := 0
def tw6068775030924127883 := 0
def tw11879795646446188550 := 0
def tw2306628690198580719 := 0
def tw14582358065788947063 := 0
def tw13523661482726920561 := 0
def tw7001047254775910416 := 0
def tw4178605028133932191 := 0
def tw15552312429266472378 := 0
def tw11286441974821314457 := 0
def tw8413590805464959364 := 0
def tw6292959905321153201 := 0
def tw8855078504185158353 := 0
def tw6789800596776359228 := 0
def tw675178784259958218 := 0
def tw620644566351390073 := 0
def tw4594979131376670531 := 0
def tw4421274818281372196 := 0
def tw4313775963467197125 := 0
def tw4038691028457084179 := 0
def tw309776107006096841 := 0
def tw18275896025659385662 := 0
def tw18045974231901759746 := 0
def tw16628903893667421483 := 0
def tw15498015702869392697 := 0
def tw14633928356760541106 := 0
def tw10054752011362778339 := 0
def tw9876227996491744507 := 0
def tw9759320888657199024 := 0
def tw972723597047615278 := 0
def tw9631262324416003524 := 0
def tw9022841129197651600 := 0
def tw8990122231481700209 := 0
def tw8843893810413599589 := 0
def tw88368558654001347 := 0
def tw8803519490492024812 := 0
def tw871927777037749848 := 0
def tw8434981260611089883 := 0
def tw8395621788182475085 := 0
def tw8342987787056642253 := 0
def tw8161112862912714137 := 0
def tw804760439996603387 := 0
def tw7412213042916255239 := 0
def tw7337753298597539568 := 0
def tw7292563338482823401 := 0
def tw7054690657124105422 := 0
def tw685520468171770987 := 0
def tw6807333961155614311 := 0
def tw6665810477794283178 := 0
def tw6583407331189411102 := 0
def tw5893175299882221557 := 0
def tw5690609365958509564 := 0
def tw5438801692790940515 := 0
def tw5353483395417989036 := 0
def tw5252718016355592618 := 0
def tw4982311644203616068 := 0
def tw493562281644268527 := 0
def tw4905557383933726848 := 0
def tw471199246833587479 := 0
def tw4505870016818320741 := 0
def tw4490105898810472732 := 0
def tw4241468045328110919 := 0
def tw416529838364429911 := 0
def tw394534663143343916 := 0
def tw3906505958255988930 := 0
def tw3747437200365706082 := 0
def tw3546962648979009585 := 0
def tw3457136332455134097 := 0
def tw3200879508680542836 := 0
def tw298314128930196053 := 0
def tw2788843796669933202 := 0
def tw2641943015308900897 := 0
def tw2435247213377134091 := 0
def tw2404064381633584933 := 0
def tw2353510051616425715 := 0
def tw2236495121426236655 := 0
def tw2045601212640435043 := 0
def tw2039656695221197580 := 0
def tw1958217600885232172 := 0
def tw1932017680073533012 := 0
def tw18317944459025244818 := 0
def tw1824659355357832025 := 0
def tw18019676970600451176 := 0
def tw17839910240652368036 := 0
def tw17827559304562265530 := 0
def tw17819981375347439740 := 0
def tw17712165887226902675 := 0
def tw1753724693675863786 := 0
def tw17516066627548381029 := 0
def tw17185195916251266001 := 0
def tw17127293307933020167 := 0
def tw1687251044045192635 := 0
def tw16756514113559839980 := 0
def tw16665269396830490609 := 0
def tw1640456759913748272 := 0
def tw15988157634206130860 := 0
def tw15952741381171288306 := 0
def tw15884690094820860543 := 0
def tw15390312701337726263 := 0
def tw15274769662474147944 := 0
def tw14805928586680833261 := 0
def tw14654409103635809274 := 0
def tw14480856287595231570 := 0
def tw14148383322276003150 := 0
def tw14074803891572112132 := 0
def tw13645754397324313726 := 0
def tw13355288614017273816 := 0
def tw13329360932250842339 := 0
def tw12490702591271427153 := 0
def tw12431807491382850547 := 0
def tw12429295315303403926 := 0
def tw12417907590066479829 := 0
def tw1225979550298595046 := 0
def tw12083241187224313762 := 0
def tw11618140498686809146 := 0
def tw11256234365083664664 := 0
def tw10883357649047612944 := 0
def tw10855086998874131336 := 0
def tw10257745700070925290 := 0
end PySem.W.Fast
open PySem PySem.W PyProof.Rows
set_option maxRecDepth 100000 in
set_option maxHeartbeats 0 in
theorem PySem.Challenge.cw_roadsettings_k69_texts_spoilt_anywhere_holds : PySem.Challenge.rw_roadsettings_k69_texts_spoilt_anywhere.Holds := by
  w_on; o_law; k_head; (case hw => w_witness2)
  k_fill
  refine' K69.walk (l := PySem.Challenge.rw_roadsettings_k69_texts_spoilt_anywhere) (ts := []) rfl rfl (fun w h Y => ⟨PySem.W.kIn_of Y, fun b hb => absurd hb (by simp)⟩) ?hK  ?F
  case hK =>
    intro w b hb
    exact absurd hb (by simp)
  case F =>
    intro w mg fa h KX G hmg
    refine' K69.all_mk KX G hmg ?_ ?_ ?_ ?_ ?_ ?_ ?_ ?_ ?_ ?_ ?_ ?_ ?_ ?_ ?_ ?_ ?_ ?_ ?_ ?_ ?_ ?_ ?_ ?_ ?_ ?_ ?_ ?_ ?_ ?_ ?_ ?_ ?_ ?_ ?_ ?_ ?_ ?_ ?_ ?_ ?_ ?_ ?_ ?_ ?_ ?_ ?_ ?_ ?_ ?_ ?_ ?_ ?_ ?_ ?_ ?_ ?_ ?_ ?_ ?_ ?_ ?_ ?_ ?_ ?_ ?_ ?_ ?_ ?_ ?_ ?_ ?_ ?_ ?_ ?_ ?_ ?_ ?_ ?_ ?_ ?_ ?_ ?_ ?_ ?_ ?_ ?_ ?_ ?_ ?_ ?_ ?_ ?_ ?_ ?_ ?_ ?_
    all_goals try (first | refine ⟨⟨by k_is, by k_is, by k_is⟩, ⟨_, _, _, _, _, _, _, _, _, rfl, by k_is, by k_is⟩, by k_is⟩ | refine ⟨by k_is, ⟨_, _, _, _, _, _, _, _, _, rfl, by k_is, by k_is⟩, by k_is⟩ | refine ⟨by k_is, ⟨by k_is, by k_is, by k_is, by k_is⟩, by k_is, by k_is⟩ | refine ⟨⟨by k_is, by k_is, by k_is⟩, ⟨_, _, _, _, _, _, _, _, rfl, by k_is, by k_is⟩, by k_is, by kernel_rfl⟩ | refine ⟨by k_is, ⟨_, _, _, _, _, _, _, _, rfl, by k_is, by k_is⟩, by k_is, by kernel_rfl⟩ | (show _ = _; first | k_is | kernel_rfl))
