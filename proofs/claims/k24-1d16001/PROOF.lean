import PyProof.Rows.All
import Wide.All
import OpenK.AllK
import Wide.FinOn
import Lean
import PyProof.EqAt
import PyProof.EqKinds
import PyProof.TupleCall
import PyProof.AutoListH
import KE.KEqDict
import PyProof.EnumMake
import PyProof.SetKind
import PyProof.Rows.SetFrom
import PyProof.ExcBaseAll.ValueError
import PyProof.ExcAttrAll.ValueError
import PySem.Challenge.RW_roadsettings_k24_the_store_changed_besid
open PySem.W renaming Frag→Qa, nsIn→QB, findIn→QR, mg_none_of→QW, kia_one→Gd, emptyDict→Go, instObj→GD, keepIn→Jn, fnOf→Po, plainGet→PU, plainGet_of→Tt, lookIn→TU, methodObj→Sl, hasDictIn→So, cellsFrom_some→Ru, takerIn→RH, makesIn→RI, OpenLaw→RO, methodCall_KW→RU, codeIn→Oj, callWith_K0→OB, mg_of→ON, callWith_K→OV, isFn→Ny, plainOver→Nz, kitx_list→NA, kitx_dict→NB, handedIn→Mg
open PySem renaming Value→Qb, wpAny_bind→Qd, Shared→Qf, wpAny_pure→Qh, sizeLine→Qi, Program→Ql, FuncData→Qm, wpAny→Qp, World→Qs, model→Qt, mainGlobals→Qv, starEach→QH, Around→QL, boot_len→QM, wpAny_holding→QX, sizeLine_eq→QY, rawInt→Gb, wpAny_truthy_bool→Gf, wpAny_newObj_type→Gg, wpAny_mono→Gj, wpAny_Call_Name_kw→Gk, codeAny_builtin→Gr, SetTable→Gu, compareOp→Gv, foldedSetIterable→GA, strIterType→GM, Builtin→GR, wpAny_passesOwn→GT, codeAny_mono→GV, keywordEach→GW, wpAny_pyIter_enum→GZ, sysModules→Jd, behindInMarks→Je, PyData→Jh, mem_of_lookup→Jj, backTo→Jm, wpAny_getItem_str_slice→Jo, wpAny_call_entry→Jr, sliceBounds→Jt, wpAny_ite_split→JA, wpAny_standAt→JC, attributeBase→JD, plainId_quiet→JF, wpAny_setState_of→JH, wpAny_letOwnedTupleGo_enum→JK, wpAny_setField→JM, codeAny→JN, reprQuote→JP, wpAny_askSetting→JQ, binaryOp→JR, tupleKind_room_in1→JY, wpAny_pyNext_enum_itemD→Pd, bootBuiltins→Pf, holding→Ph, bindName→Pi, wpAny_bindName→Pj, wpAny_pyIter_list→Pk, backToKw→Pm, fits_of_scanBound→Pz, wpAny_rule→PR, assignInOrder→PZ, wpAny_loadName_local→Td, NameKind→Te, codeAny_call_builtin→Ti, wpAny_of_eq→Tj, wpAny_execs_nil→To, letOwnedTupleGo→Tp, post_val_or_str→Tq, wpAny_setEntries_of→Tv, Keyword→Tx, call_meetsIn→Tz, assignEach→TN, wpAny_newFunctionEnv_cells→TV, call_meets→TW, slot_list_getitem→Su, valueAt→Sv, Paired→SF, pyNext→SH, wpAny_getItem_list_slice→SK, wpAny_comprehension_free→SL, wpAny_newList→SO, tupleKind→SV, GenState→SW, swapsWith→SX, getMethod→SZ, checkBuiltinCall→Rc, scanBound→Ri, wpAny_callSpecial?_slot→Rk, builtinsNs→Rn, standAt→Ro, wpAny_call→Rr, wpAny_pyNext_enum_endD→RB, wpAny_typeOf→RC, codeAny_of_tree→RL, wpAny_isTrue_Compare1→RT, weight_type_call_type→RW, builtinLookup_eq_fast→RZ, assign→Of, recursionLimit→Og, cLine→Oh, callWith→Oi, subscripted→Ol, lookup_relabel_local→Om, entryFor→Oo, relayAll→Os, isSubtype_type→Ot, BindsTo→Ov, callerA→Ow, pickOrder→Ox, wpAny_loadName_cell→Oy, wpAny_Tuple_spliced→OA, swapsWithSole→OH, swappedStores→OI, wpAny_attempt→OM, wpAny_Name→OQ, wpAny_Constant_int→OR, wpAny_pyIter_tuple→OS, Result→OU, typeLookup→OW, typeIs_str→OZ, argsOk→Nb, sliceRange→Nf, getattributeRaised→Nl, str_of_reads→Nt, Within→Nu, Drawn→Nv, wpAny_assign_Name→Nw, wpAny_evalAll_nil→ND, getItem→NE, seqIndex_neg→NF, wpAny_Call_method→NJ, wpAny_pyIter_strU→NL, textFrom→NR, wpAny_storeSet_of→NY, wpAny_pyIter_slot→Ma, wpAny_setEpoch_of→Mb, wpAny_execs_cons→Mc, pyIter→Mf, slicePick→Mj, entryFor_of_tree→Mm, tupleText→Mq, take_succ_filter→Mv, wpAny_isInstance→Mw, bindL→Mz, seqIndex_of→MA, atKey→MB, exec_Assign_arm→MF, call_tuple_list→MH, wpAny_specialOf→MJ, typeLookup_type→MS, wpAny_updateSeq→MU
open PySem.Heap renaming get?_push_of_some→Qc, lt_size→Qj, get?_push_size→Qk, size_push→Gc, get?_update_self→GQ, get?_update_other→Jw, SameBut→Pg, get?_push_cases→Tk, size_update→Rf, ExtBut→Ou, get?_push_ne→NP
open Nat renaming le_refl→Qe, ne_of_lt→Qn, le_trans→Qr, zero_le→Qw, lt_of_lt_of_le→QA, lt_of_le_of_lt→QT, sub_self→QZ, le_succ→Gh, lt_succ_of_lt→Gi, lt_irrefl→Gz, le_of_lt→GG, ne_of_gt→GI, lt_succ_self→GN, pow_zero→Ja, le_add_right→Jp, mod_one→Ju, lt_or_ge→Pu, mul_le_mul_right→Th, le_of_eq→Tw, eq_of_mul_eq_mul_right→Sa, succ_ne_self→Re, mul_comm→Rw, lt_trans→Rx, pow_succ→RE, min_eq_left→RP, strongRecOn→RS, add_le_add_left→OC, not_lt→Nc, mod_lt→No, min_self→NM, min_eq_right→Mp, mod_eq_of_lt→Mu, mod_mul→MD, min_le_left→MP
open List renaming getElem?_eq_some_iff→Qg, replicate→QJ, getElem_mem→QS, range→Gn, getElem?_cons_succ→GC, getElem?_set_self→GH, pairwise_iff_getElem→GS, length→GX, replicate_succ→Jk, map_congr_left→Jl, length_eq_zero_iff→Jq, length_filter_le→JG, lookup→JJ, length_nil→JV, reverse_cons→Pr, flatten_cons→Ps, foldl_append→Px, length_replicate→PL, getElem?_eq_none→PQ, cons_append→PV, take_length→PX, mem_append_left→Tb, getElem?_set_ne→Tc, mem_of_mem_take→Tg, replicate_succ'→Tn, range_succ→Tr, length_zip→Ts, filter_sublist→Tu, exists_cons_of_ne_nil→Sb, length_eraseIdx_of_lt→Sc, getElem?_eq_none_iff→Se, mem_or_eq_of_mem_set→Sf, exists_mem_of_ne_nil→Sj, take_sublist→Ss, flatMap_cons→Sx, ext_getElem?→Sy, set_comm→SG, sum_cons→SM, length_pos_of_mem→RF, pairwise_lt_range→RG, foldl_cons→RJ, all_append→RQ, filterMap_append→RV, take_append_drop→RX, getElem?_toArray→Ob, toList_toArray→OD, mem_map_of_mem→OE, reverse_append→OF, all_cons→OL, mem_filterMap→OT, foldl→Na, filterMap_map→Ng, getElem?_drop→Nh, length_range'→Np, pairwise_cons→Nq, filter_append→Nr, map_nil→NH, map_id'→NQ, getElem?_set→NV, getElem_drop→NX, map_fst_zip→Mn, getElem_map→Mr, any_eq_true→Mt, range'→ME, append_nil→MG, forIn_cons→ML, sum_append→MN, filter_map→MQ
open Option.some renaming inj→Qo, injEq→Sw
open PySem.Str renaming ofString→Qq
open Array renaming length_toList→Qu, getElem?_toList→QP, getElem?_eq_getElem→QV, toArray_toList→GY, getElem_toList→Jb, getElem?_eq_some_iff→JL, getElem?_eq_none→PB, perm_iff_toList_perm→TX, toList_push→SE, foldl_toList→Nn, toList_map→Ml, toList_inj→Mo
open Bool renaming false_ne_true→Qx, and_eq_true→QO, false_eq_true→Gx, eq_iff_iff→JU, or_false→OJ, or_eq_true→MM
open Or renaming inl→Qy, inr→Jg
open PySem.F renaming plainAttrs_list→Qz, slot_list_append→QF, type_list_append→QG, plainAttrs_str→GL, called_set→Pa, plainAttrs_dict→Pc, slot_str_index→PD, type_str_index→PF, slot_dict_pop→PM, slot_dict_get→PN, slot_tuple_getattribute→Sd, plain_extend_loop→Sh, slot_list_extend→SQ, type_list_extend→SS, args_dict_pop_3→Ra, args_dict_get_2→Rb, slot_dict_items→Rh, plain_list_iadd→Rl, entry_dict_pop→Ry, entry_dict_get→RA, slot_set_iter→Oa, slot_str_join→Oc, type_str_join→Od, slot_int_rmul→MI, plain_set_new→MR
open PySem.Obj renaming mapSeq→QC, mapFields→Ta
open Sum renaming inl→QD, inr→QK
open PySem.Value renaming ref→QE, type→GO, none→Jc, str→Pb, int→TL, bool→Rm, float→Mx
open PySem.Heap.SameBut renaming update→QI
open PySem.SetTable renaming below→QN, grown→Js, has→NW
open PySem.Builtin.Str renaming reprChar→QQ, strSliceIndices→TD
open PyProof.Rows renaming seqObj→QU, arrOf→Gs, callWith_type1→GJ, assignInOrder_cons→GP, StrsAre→JO, get?_update_seq→JW, subscriptTail_builtinR→Pq, signs_ofString→TH, AllBare→Sm, assignInOrder_nil→Sn, subscriptTail→SJ, listUpdate_at→SN, envOfC→Rt, Subscript_→Rv, strOf→RM, entry_list_sort→RN, boot_enumerate→Op, slot_list_sort→Oq, Constant_none→OG, slot_tuple_getitem→OY, size_push'→Nk, unpackItems_tuple→Nx, IntsAre→NG, plain_sorted→NN, entry_sorted→NO, callWith_builtin1→Mh, IsTup→My, kind_sorted→MC
open PySem.PassesOwn renaming never→Ga
open PySem.PyData renaming depthAll→Ge, shown→GK, int→Ji, shownAll→Jz, showableAll→JZ, hasDictAll→Pw, str→PY, list→Tl, canLayAll0→Sz, hasDict→On, eqv→Nm, strOk→NT, depth→NU
open PySem.Around renaming under_plainId→Gm, under→Rq, under_plain→Nj
open Int renaming toNat_natCast→Gp, emod_lt_of_pos→Gy, eq_ofNat_of_zero_le→GB, emod_nonneg→GF, fdiv_eq_ediv_of_nonneg→JI, zero_add→PH, fmod_eq_emod_of_nonneg→TQ, ediv_one→NK
open Option renaming map_eq_some_iff→Gq, map_some→GU, toList_some→TZ, isSome_iff_exists→SI, isSome_map→NI, getD_none→Mi
open True renaming intro→Gw
open False renaming elim→GE
open PySem.Builtin.List renaming listTooLong→Jf, listLengthHint→TJ, listExtendWith→TK, listFitsIndex→TY, listSameRef→SU
open Ne renaming symm→Jv
open PySem.Calls renaming callWith_builtin→Jx, spliced_cons→JX, call_function_entry→PJ, evalArgs_plain→Tf, Name_function_global→TM, spliced_nil→Sq, call_len_list→Oz
open ForInStep renaming yield→Jy
open PySem.Paired renaming length→JB
open PySem.NameKind renaming free→JE
open PySem.Shared renaming TypeIs→JS
open List.cons renaming inj→JT
open PyProof.Rows.F renaming plain_set_update_loop→Pe, entry_set_update_loop→Rj
open PySem.SetTable.below renaming go→Py
open PySem.Challenge renaming pw_roadsettings_k24_the_store_changed_besid→PP
open Classical renaming byContradiction→Sg, choose_spec→Oe
open Sum.inr renaming inj→Sk
open PySem.SetTable.probe renaming go→SD
open PyProof.Rows.IsTup renaming new→SY
open PySem.Builtin.Dict renaming updateFrom→Rg
open PyProof renaming noPylong_small→Rp
open PySem.AutoListH renaming list_insert_list_int_val_1→RD
open List.Pairwise renaming sublist→RY
open PySem.SeqAt.EqAt renaming int_str→OO, str_int→OP
open PySem.Heap.IsSliceOf renaming new→OX
open PySem.Code renaming quiet_builtin→Ni, isFrame→NC
open PySem.pickOrder renaming go→NZ
open PySem.Flow renaming next→Me
open List.Perm renaming nil_eq→Ms
open PySem.Heap.DictOf renaming new→MK
open Array.Perm renaming refl→MO
open PySem.Builtin.Frozenset renaming updateFrom→MT
set_option Elab.async false
set_option linter.all false
set_option maxRecDepth 100000
set_option maxHeartbeats 4000000
open List (all_eq_true any_cons append_assoc eq_nil_of_length_eq_zero filterMap_cons filter_cons find?_cons getD_eq_getElem?_getD getElem?_append_left getElem?_append_right getElem?_eq_getElem getElem?_map getElem?_zip_eq_some length_append length_cons length_drop length_map length_pos_iff length_range length_reverse length_set length_take lookup_cons map_append map_cons map_map mem_append mem_append_right mem_cons mem_cons_of_mem mem_cons_self mem_filter mem_iff_getElem mem_iff_getElem? mem_map mem_of_getElem? mem_range mem_singleton nodup_append nodup_cons nodup_nil not_mem_nil of_mem_zip pairwise_map size_toArray take_add_one take_of_length_le take_succ)
local macro_rules | `(tactic| omega) => `(tactic| lia)
namespace L2
open PySem PySem.Spec PyProof.Rows
abbrev Zj:=Sum Int Str
def YZ:Zj->Qb->Bool
 | .inl k,v=>Value.isInt k v
 | .inr x,v=>Value.isStrOf x v
def keyH (w:Qs):Zj->Int
 | .inl k=>hashInt k
 | .inr x=>hashStr w x
theorem Yd:∀{k:Zj}{v:Qb},YZ k v=true->(∃ i t,k=QD i/\v=TL i t)\/(∃ x t,k=QK x/\v=Pb x t)
 | .inl i,v,h=>by
  obtain ⟨t,e⟩:=Value.isInt_shape (k:=i) (v:=v) h
  exact .inl ⟨i,t,rfl,e⟩
 | .inr x,v,h=>by
  obtain ⟨t,e⟩:=Value.isStrOf_shape (x:=x) (v:=v) h
  exact .inr ⟨x,t,rfl,e⟩
theorem Zdv (i:Int)(t:Tok):YZ (.inl i) (.int i t)=true:=by simp [YZ,Value.isInt]
theorem Zdw (x:Str)(t:Tok):YZ (.inr x) (.str x t)=true:=by simp [YZ,Value.isStrOf]
theorem Zoi (a b:Int):decide ((QD a:Zj)=QD b)=(a == b):=by
 by_cases e:a=b
 ·subst e;simp
 ·have h:¬ (QD a:Zj)=QD b:=fun q=>e (Sum.inl.inj q)
  rw [decide_eq_false h]
  exact (beq_eq_false_iff_ne.mpr e).symm
theorem Zol (a b:Str):decide ((QK a:Zj)=QK b)=decide (a=b):=by
 by_cases e:a=b
 ·subst e;simp
 ·have h:¬ (QK a:Zj)=QK b:=fun q=>e (Sk q)
  rw [decide_eq_false h,decide_eq_false e]
theorem Zoj (a:Int)(b:Str):decide ((QD a:Zj)=QK b)=false:=decide_eq_false (fun q=>nomatch q)
theorem Zok (a:Str)(b:Int):decide ((QK a:Zj)=QD b)=false:=decide_eq_false (fun q=>nomatch q)
def ZB (prog:Ql)(w:Qs):PySem.KeyKind prog w Zj where
 is:=YZ
 hash:=keyH w
 inj := fun v a b ha hb=>by
  rcases Yd ha with ⟨i,t,rfl,rfl⟩ | ⟨x,t,rfl,rfl⟩
  ·rcases Yd hb with ⟨j,u,rfl,e⟩ | ⟨y,u,rfl,e⟩
   ·injection e with e1 _;rw [e1]
   ·exact nomatch e
  ·rcases Yd hb with ⟨j,u,rfl,e⟩ | ⟨y,u,rfl,e⟩
   ·exact nomatch e
   ·injection e with e1 _;rw [e1]
 byValue:=fun k v h=>by
  rcases Yd h with ⟨i,t,rfl,rfl⟩ | ⟨x,t,rfl,rfl⟩<;>rfl
 pyHash:=fun hv h=>by
  rcases Yd hv with ⟨i,t,rfl,rfl⟩ | ⟨x,t,rfl,rfl⟩
  ·exact wpAny_pyHash_int h
  ·exact wpAny_pyHash_str h
 eqBool:=fun hu hv h=>by
  rcases Yd hu with ⟨i,t,rfl,rfl⟩ | ⟨x,t,rfl,rfl⟩
  ·rcases Yd hv with ⟨j,u,rfl,rfl⟩ | ⟨y,u,rfl,rfl⟩
   ·rw [Zoi] at h;exact wpAny_eqBool_int h
   ·rw [Zoj] at h;exact OO i t y u _ _ _ _ h
  ·rcases Yd hv with ⟨j,u,rfl,rfl⟩ | ⟨y,u,rfl,rfl⟩
   ·rw [Zok] at h;exact OP x t j u _ _ _ _ h
   ·rw [Zol] at h;exact wpAny_eqBool_str h
 «strs»:=fun k x t v h=>by
  rcases Yd h with ⟨i,u,rfl,e⟩ | ⟨y,u,rfl,e⟩
  ·exact nomatch e
  ·injection e with e1 _
   subst e1
   cases v<;>rfl
theorem Zcb (prog:Ql)(w:Qs)(k:Zj)(v:Qb):(ZB prog w).is k v=YZ k v:=rfl
theorem ZfQ (prog:Ql)(w:Qs)(i:Int)(t:Tok):(ZB prog w).is (.inl i) (.int i t)=true:=Zdv i t
theorem ZaM (prog:Ql)(w:Qs)(x:Str)(t:Tok):(ZB prog w).is (.inr x) (.str x t)=true:=Zdw x t
inductive V where
 | non | bl (b:Bool) | int (i:Int) | str (x:Str) | byt (b:Array UInt8) | flt (b:UInt64) | ref (a:Addr) | ty (n:String)
 deriving DecidableEq
def RelV:V->Qb->Prop
 | .non,u=>u=Jc
 | .bl b,u=>u=Rm b
 | .int i,u=>∃ t,u=TL i t
 | .str x,u=>∃ t,u=Pb x t
 | .byt b,u=>∃ t,u=Value.bytes b t
 | .flt b,u=>∃ t,u=Mx b t
 | .ref a,u=>u=QE a
 | .ty n,u=>u=GO n
abbrev Vals:List V->List Qb->Prop:=SF RelV
theorem Vals.length (r:Vals xs us):xs.length=us.length:=JB r
theorem Vals.get:∀{xs:List V}{us:List Qb}{i:Nat}{x:V},Vals xs us->xs[i]?=some x->∃ u,us[i]?=some u/\RelV x u
 | _,_,_,_,.nil,e=>by simp at e
 | _,_,0,_,.cons r _,e=>by simp at e;subst e;exact ⟨_,rfl,r⟩
 | _,_,i+1,x,.cons _ t,e=>by
  obtain ⟨u,h1,h2⟩:=Vals.get (i:=i) (x:=x) t (by simpa using e)
  exact ⟨u,by simpa using h1,h2⟩
theorem Vals.set (r:RelV x u):∀{xs:List V}{us:List Qb}(i:Nat),Vals xs us->Vals (xs.set i x) (us.set i u)
 | _,_,_,.nil=>.nil
 | _,_,0,.cons _ t=>.cons r t
 | _,_,i+1,.cons q t=>.cons q (Vals.set r i t)
theorem Vals.append:∀{xs ys:List V}{us z:List Qb},Vals xs us->Vals ys z->Vals (xs++ys) (us++z)
 | _,_,_,_,.nil,s=>s
 | _,_,_,_,.cons r t,s=>.cons r (Vals.append t s)
theorem Vals.take:∀{xs:List V}{us:List Qb}(n:Nat),Vals xs us->Vals (xs.take n) (us.take n)
 | _,_,0,_=>.nil
 | _,_,_+1,.nil=>.nil
 | _,_,n+1,.cons r t=>.cons r (Vals.take n t)
theorem Vals.drop:∀{xs:List V}{us:List Qb}(n:Nat),Vals xs us->Vals (xs.drop n) (us.drop n)
 | _,_,0,r=>r
 | _,_,_+1,.nil=>.nil
 | _,_,n+1,.cons _ t=>Vals.drop n t
def RelO:Option V->Option Qb->Prop
 | some v,some u=>RelV v u
 | none,none=>True
 | _,_=>False
def KV {κ:Type}:List (κ×V)->List (κ×Qb)->Prop:=SF fun (p:κ×V) (q:κ×Qb)=>p.1=q.1/\RelV p.2 q.2
def kV:Zj->V
 | .inl i=>.int i
 | .inr x=>.str x
inductive HO where
 | lst (xs:List V)
 | tup (xs:List V)
 | dK (kvs:List (Zj×V)) | dT (kvs:List (List Zj×V))
 | set (S:Int->Bool) (n:Nat)
 | ins (C dx:Addr) (fs:List (Str×V))
 | own (x:Addr)
 | xd (fs:List (Str×V))
 | met (f x:Addr)
 | rng (lo hi:Int)
 | frz (o:Obj) (u:HO)
 | tbl (ps:Array Qb)
 | ext (φ:Heap->Prop)
abbrev Hp:=Addr->Option HO
def upd (H:Hp)(a:Addr)(o:HO):Hp:=fun b=>if b=a then some o else H b
theorem Zi :upd H a o a=some o:=by unfold upd;rw [if_pos rfl]
theorem Zl (h:b≠a):upd H a o b=H b:=by unfold upd;rw [if_neg h]
theorem Zcc {H:Hp}{a b:Addr}{o u:HO}(h:H a=some o)(h':H b=some u)(d:o≠u):a≠b:=by
 intro e;subst e;rw [h] at h';exact d (Qo h')
theorem Zs {H:Hp}{a b:Addr}{o:HO}(h:H a=some o)(h':H b=none):a≠b:=by
 intro e;subst e;rw [h] at h';cases h'
section
variable (P:Ql)(w:Qs)
def ObjOk (H:Hp)(h:Heap)(a:Addr):HO->Prop
 | .lst xs=>xs.length<=Qi/\∃ (its:List Qb) (n:Nat),Vals xs its/\h.get? a=some { cls:=.type "list",data:=.seq its.toArray n }
 | .tup xs=>xs.length<=Qi/\∃ its:List Qb,Vals xs its/\My h a its.toArray
 | .dK kvs=>kvs.length<=Qi/\(a == Jd)=false/\∃ vs,KV kvs vs/\h.DictOf (ZB P w) a vs
 | .dT kvs=>kvs.length<=Qi/\(a == Jd)=false/\∃ xs:List (List Zj×Addr×Qb),
     SF (fun (p:List Zj×V) (q:List Zj×Addr×Qb)=>p.1=q.1/\H q.2.1=some (.tup (p.1.map kV))/\RelV p.2 q.2.2) kvs xs /\
     ∃ o es ep,h.get? a=some o/\o.ExactDict/\o.data=.dict es ep/\es.toList=xs.map (entryOfKey (SV (ZB P w)))/\(xs.map (·.1)).Nodup
 | .set S n=>h.SetOf (intKind P w) a S n
 | .ins C dx fs=>H dx=some (.own a)/\fs.length<=1000/\dx≠a/\h.get? a=some (GD C dx) /\
     ∃ mA,h.Ns1 dx mA/\(∀ f,RelO (fs.lookup f) (mA f))/\Nu mA (fs.map (·.1))
 | .own _=>∃ o,h.get? a=some o
 | .xd fs=>∃ mA,h.Ns1 a mA/\∀ f,RelO (fs.lookup f) (mA f)
 | .rng lo hi=>∃ t u v,h.get? a=some { cls:=.type "range",data:=.fields #[.int lo t,.int hi u,.int 1 v] }
 | .frz o u=>h.get? a=some o/\ObjOk H h a u
 | .tbl ps=>h.get? a=some { cls:=.none,data:=.fields ps }
 | .met f x=>h.get? a=some (Sl (.ref f) (.ref x))
 | .ext φ=>φ h/\(∃ o,h.get? a=some o)/\∀ h1 h2:Heap,φ h1->(∀ o,h1.get? a=some o->h2.get? a=some o)->φ h2
def HOk (H:Hp)(h:Heap):Prop:=∀ a o,H a=some o->ObjOk P w H h a o
end
section
variable {P:Ql}{w:Qs}{H H':Hp}{h h':Heap}{a:Addr}{o:HO}
theorem ObjOk.lt (x:ObjOk P w H h a o):a < h.objs.size:=by
 cases o with
 | lst xs=>obtain ⟨_,_,_,_,e⟩:=x;exact Qj e
 | tup xs=>obtain ⟨_,_,_,p⟩:=x;exact p.lt
 | dK kvs=>obtain ⟨_,_,_,_,o,_,_,e,_⟩:=x;exact Qj e
 | dT kvs=>obtain ⟨_,_,_,_,o,_,_,e,_⟩:=x;exact Qj e
 | set S n=>obtain ⟨o,_,_,_,e,_⟩:=x;exact Qj e
 | ins C dx fs=>obtain ⟨_,_,_,e,_⟩:=x;exact Qj e
 | own y=>obtain ⟨_,e⟩:=x;exact Qj e
 | xd fs=>obtain ⟨_,⟨_,_,_,e,_⟩,_⟩:=x;exact Qj e
 | rng lo hi=>obtain ⟨_,_,_,e⟩:=x;exact Qj e
 | frz ob u=>obtain ⟨e,_⟩:=x;exact Qj e
 | tbl ps=>exact Qj (show h.get? a=some _ from x)
 | met f y=>exact Qj (show h.get? a=some _ from x)
 | ext φ=>obtain ⟨_,⟨_,e⟩,_⟩:=x;exact Qj e
theorem SF.mapP {D J:Type}{F G:D->J->Prop}:∀{z:List D}{B:List J},SF F z B->(∀ a b,F a b->G a b)->SF G z B
 | _,_,.nil,_=>.nil
 | _,_,.cons r t,f=>.cons (f _ _ r) (SF.mapP t f)
theorem ObjOk.stay (x:ObjOk P w H h a o)(k:∀ b u,(b=a\/H b=some (.own a))->h.get? b=some u->h'.get? b=some u)
 (Z:∀ b,H b=some (.own a)->H' b=some (.own a)) (W:∀ b xs,H b=some (.tup xs)->H' b=some (.tup xs)):ObjOk P w H' h' a o:=by
 induction o with
 | lst xs=>obtain ⟨z,D,n,r,e⟩:=x;exact ⟨z,D,n,r,k _ _ (.inl rfl) e⟩
 | tup xs=>obtain ⟨z,D,r,B,e,c⟩:=x;exact ⟨z,D,r,B,k _ _ (.inl rfl) e,c⟩
 | dK kvs=>obtain ⟨z,y,vs,r,B,es,ep,e,c⟩:=x;exact ⟨z,y,vs,r,B,es,ep,k _ _ (.inl rfl) e,c⟩
 | dT kvs =>
  obtain ⟨z,y,xs,r,B,es,ep,e,c⟩:=x
  exact ⟨z,y,xs,SF.mapP r fun p q z=>⟨z.1,W _ _ z.2.1,z.2.2⟩,B,es,ep,k _ _ (.inl rfl) e,c⟩
 | set S n=>obtain ⟨B,es,ep,t,e,c⟩:=x;exact ⟨B,es,ep,t,k _ _ (.inl rfl) e,c⟩
 | ins C dx fs =>
  obtain ⟨d,z,ne,e,mA,⟨J,es,ep,Y,c⟩,r⟩:=x
  exact ⟨Z _ d,z,ne,k _ _ (.inl rfl) e,mA,⟨J,es,ep,k _ _ (.inr d) Y,c⟩,r⟩
 | own y=>obtain ⟨B,e⟩:=x;exact ⟨B,k _ _ (.inl rfl) e⟩
 | xd fs=>obtain ⟨mA,⟨J,es,ep,e,c⟩,r⟩:=x;exact ⟨mA,⟨J,es,ep,k _ _ (.inl rfl) e,c⟩,r⟩
 | rng lo hi=>obtain ⟨t,u,v,e⟩:=x;exact ⟨t,u,v,k _ _ (.inl rfl) e⟩
 | frz B u ih=>obtain ⟨e,q⟩:=x;exact ⟨k _ _ (.inl rfl) e,ih q⟩
 | tbl ps =>
  have e:h.get? a=some { cls:=.none,data:=.fields ps }:=x
  show h'.get? a=some { cls:=.none,data:=.fields ps }
  exact k a _ (.inl rfl) e
 | met f y =>
  have e:h.get? a=some (Sl (.ref f) (.ref y)):=x
  show h'.get? a=some (Sl (.ref f) (.ref y))
  exact k a _ (.inl rfl) e
 | ext φ=>obtain ⟨p,⟨o,e⟩,st⟩:=x;exact ⟨st _ _ p fun o q=>k _ _ (.inl rfl) q,⟨o,k _ _ (.inl rfl) e⟩,st⟩
theorem HOk.lt (x:HOk P w H h)(e:H a=some o):a < h.objs.size:=(x a o e).lt
theorem HOk.fresh (x:HOk P w H h)(e:h.objs.size<=a):H a=none:=by
 cases q:H a with
 | none=>rfl
 | some u=>exact absurd (QA (x.lt q) e) (Gz _)
theorem HOk.kept (x:HOk P w H h)(k:∀ b u,h.get? b=some u->h'.get? b=some u):HOk P w H h':=fun a o e =>
 (x a o e).stay (fun b u _ q=>k b u q) (fun _ q=>q) fun _ _ q=>q
theorem HOk.laid (x:HOk P w H h)(k:∀ b u,h.get? b=some u->h'.get? b=some u)(hp:h.objs.size<=a)(new:ObjOk P w (upd H a o) h' a o):HOk P w (upd H a o) h':=fun b u e=>by
 have B:=x.fresh hp
 by_cases z:b=a
 ·subst z;rw [Zi] at e;cases e;exact new
 ·rw [Zl z] at e
  exact (x b u e).stay (fun c v _ q=>k c v q) (fun c q=>by rw [Zl (Zs q B)];exact q) fun c xs q=>by rw [Zl (Zs q B)];exact q
end
def Rd (H:Hp)(a:Addr)(u:HO):Prop:=H a=some u\/∃ o,H a=some (.frz o u)
theorem Rd.ok (r:Rd H a u)(x:HOk P w H h):ObjOk P w H h a u:=by
 rcases r with r | ⟨o,r⟩
 ·exact x a u r
 ·obtain ⟨_,q⟩:=x a _ r
  exact q
def Mut:Option HO->Prop
 | some (.lst _)=>True
 | some (.dK _)=>True
 | some (.dT _)=>True
 | some (.set _ _)=>True
 | some (.ins _ _ _)=>True
 | some (.ext _)=>True
 | _=>False
section
variable {P:Ql}{w:Qs}{H:Hp}{h h':Heap}{x e:Addr}{o':HO}
theorem HOk.write (ok:HOk P w H h)(W:Mut (H x))(he:e=x\/H e=some (.own x))(k:∀ b u,b≠e->h.get? b=some u->h'.get? b=some u)(Z:∃ u,h'.get? e=some u)
 (new:ObjOk P w (upd H x o') h' x o'):HOk P w (upd H x o') h':=fun b u q=>by
 have D:∀ c y,H c=some (.own y)->c≠x:=fun c y r z=>by subst z;rw [r] at W;exact W
 have J:∀ c xs,H c=some (.tup xs)->c≠x:=fun c xs r z=>by subst z;rw [r] at W;exact W
 by_cases Y:b=x
 ·subst Y;rw [Zi] at q;cases q;exact new
 ·rw [Zl Y] at q
  by_cases B:b=e
  ·have q':H b=some (.own x):=by
    rcases he with z | z
    ·exact absurd (B.trans z) Y
    ·rw [B];exact z
   rw [q] at q';cases q'
   obtain ⟨v,hv⟩:=Z
   exact ⟨v,by rw [B];exact hv⟩
  ·refine (ok b u q).stay (fun c v hc r=>k c v ?_ r) (fun c r=>by rw [Zl (D c b r)];exact r) fun c xs r=>by rw [Zl (J c xs r)];exact r
   rcases hc with rfl | hc
   ·exact B
   ·rintro rfl
    rcases he with z | z
    ·exact D c b hc z
    ·rw [hc] at z;cases z;exact Y rfl
end
structure Un (fs ex:List Addr)(H H':Hp)(h h':Heap):Prop where
 keep:∀ b o,h.get? b=some o->H b=none->b ∉ fs->b ∉ ex->h'.get? b=some o
 slot:∀ b o,h.get? b=some o->H b=none->b∈fs->b ∉ ex->∃ sl,h'.get? b=some { o with slots:=sl }
 free:∀ b o,h.get? b=some o->H b=none->b ∉ ex->H' b=none
 there:∀ b o,h.get? b=some o->b ∉ ex->∃ o',h'.get? b=some o'
 tups:∀ b xs,H b=some (.tup xs)->H' b=some (.tup xs)
 frzs:∀ b o u,H b=some (.frz o u)->H' b=some (.frz o u)
 tbls:∀ b ps,H b=some (.tbl ps)->∃ more,H' b=some (.tbl (ps++more))
section
variable {fs fs' ex ex':List Addr}{H H1 H2:Hp}{h h1 h2 h':Heap}{a x e:Addr}{o:HO}
theorem Un.any (u:Un fs ex H H1 h h1)(q:h.get? b=some z)(n:H b=none)(D:b ∉ ex):∃ J,h1.get? b=some { z with slots:=J }:=by
 by_cases B:b∈fs
 ·exact u.slot b z q n B D
 ·exact ⟨z.slots,u.keep b z q n B D⟩
theorem Un.kept (k:∀ b u,h.get? b=some u->h'.get? b=some u):Un fs ex H H h h' :=
 ⟨fun b z q _ _ _=>k b z q,fun b z q _ _ _=>⟨z.slots,k b z q⟩,fun _ _ _ n _=>n,fun b z q _=>⟨z,k b z q⟩,fun _ _ q=>q,fun _ _ _ q=>q,fun _ ps q=>⟨#[],by rw [q];simp⟩⟩
theorem Un.refl:Un fs ex H H h h:=Un.kept fun _ _ q=>q
theorem Un.laid (k:∀ b u,h.get? b=some u->h'.get? b=some u)(hp:h.objs.size<=a)(z:H a=none):Un fs ex H (upd H a o) h h' where
 keep:=fun b u q _ _ _=>k b u q
 slot:=fun b u q _ _ _=>⟨u.slots,k b u q⟩
 free:=fun b u q n _=>by rw [Zl (Qn (QA (Qj q) hp))];exact n
 there:=fun b u q _=>⟨u,k b u q⟩
 tups:=fun b xs q=>by rw [Zl (Zs q z)];exact q
 frzs:=fun b u xs q=>by rw [Zl (Zs q z)];exact q
 tbls:=fun b ps q=>⟨#[],by rw [Zl (Zs q z),q];simp⟩
theorem Un.write (D:Mut (H x))(he:e=x\/H e=some (.own x))(k:∀ b u,b≠e->h.get? b=some u->h'.get? b=some u)(W:∃ u,h'.get? e=some u):Un fs ex H (upd H x o) h h':=by
 have Y:∀ b,H b=none->b≠x:=fun b n z=>by subst z;rw [n] at D;exact D
 have Z:∀ b,H b=none->b≠e:=fun b n z=>by
  subst z
  rcases he with r | r
  ·exact Y b n r
  ·rw [n] at r;cases r
 have J:∀ b u,H b=some u->¬ Mut (some u)->b≠x:=fun b u q nm z=>by subst z;rw [q] at D;exact nm D
 refine ⟨fun b u q n _ _=>k b u (Z b n) q,fun b u q n _ _=>⟨u.slots,k b u (Z b n) q⟩,fun b u q n _=>by rw [Zl (Y b n)];exact n,fun b u q _=>?_,
  fun b xs q=>by rw [Zl (J b _ q fun z=>z)];exact q,fun b u xs q=>by rw [Zl (J b _ q fun z=>z)];exact q,fun b ps q=>⟨#[],by rw [Zl (J b _ q fun z=>z),q];simp⟩⟩
 by_cases B:b=e
 ·subst B;exact W
 ·exact ⟨u,k b u B q⟩
end
def trk (h:Heap)(H:Hp):List Addr:=(Gn h.objs.size).filter fun a=>(H a).isSome
def UO (h:Heap)(H:Hp):Heap:=PySem.W.hideAll h (trk h H)
theorem Zix (h:Heap)(H:Hp):(UO h H).objs.size=h.objs.size:=PySem.W.hideAll_size _ _
theorem Zkm (e:h.get? b=some o)(n:H b=none):(UO h H).get? b=some o :=
 PySem.W.hideAll_get _ e fun z=>by
  have q:(H b).isSome=true:=(mem_filter.mp z).2
  rw [n] at q;simp at q
theorem ZmI (e:(UO h H).get? b=some o):h.get? b=some o/\H b=none:=by
 have B:h.get? b=some o:=PySem.W.of_hideAll (trk h H) e
 refine ⟨B,?_⟩
 cases q:H b with
 | none=>rfl
 | some x =>
  have D:b∈trk h H:=mem_filter.mpr ⟨mem_range.mpr (Qj B),by simp [q]⟩
  have z:(UO h H).get? b=none:=PySem.W.hideAll_none (trk h H) D
  rw [z] at e;cases e
structure Mod (K:Qa)(mg:Str->Option Qb)(base:Heap):Prop where
 kin:K.In base
 glob:base.Ns Qv mg
 blt:∃ mb,base.Ns Rn mb/\∀ x:Str,x≠"__name__"->mb x=Pf x
 nolimit:base.NoLimit
structure Cx where
 prog:Ql
 w:Qs
 K:Qa
 mg:Str->Option Qb
 base:Heap
 A:QL
 N:List Str
 s₀:Qf
 H₀:Hp
 env:Env
 outer:List Env
 stack:List Env
 ex:List Addr
 fn:Str->Bool
 calm:Bool
 pn:List (Addr×Obj)
 xe:Qb->Qf->Prop
def VZ (l:List Env):List Addr:=l.filterMap (·.frame)
abbrev Cx.fs (X:Cx):List Addr:=VZ X.outer
def Vis (sc:Scope)(x:Str):Prop:=sc.names.lookup x=some .local\/sc.names.lookup x=some .cell\/sc.names.lookup x=some .free
def Loc (sc:Scope)(x:Str):Prop:=sc.names.lookup x=some .local\/sc.names.lookup x=some .cell
def Look (env:Env)(h:Heap)(m:Str->Option Qb)(x:Str)(u:Qb):Prop :=
 (env.kindOf x=some .local/\m x=some u)\/((env.kindOf x=some .cell\/env.kindOf x=some .free)/\∃ c,env.cells.lookup x=some c/\h.IsCell c (some u))
structure Cx.Ok (X:Cx):Prop where
 mod:Mod X.K X.mg X.base
 kind:X.env.scope.kind=.function
 glob:X.env.globals=Qv
 blt:X.env.builtins=Rn
 above:X.s₀.heap.objs.size<=X.env.locals
 inj:∀ x y c,X.env.cells.lookup x=some c->X.env.cells.lookup y=some c->x=y
 has:∀ x,(X.env.kindOf x=some .cell\/X.env.kindOf x=some .free)->∃ c,X.env.cells.lookup x=some c
 cab:∀ x c,X.fn x=true->X.env.cells.lookup x=some c->X.s₀.heap.objs.size<=c
 hd:X.calm=true->X.A.handled=none
 frames:X.A.frames=some X.stack
 stk:X.stack=X.outer\/(X.stack=X.env::X.outer/\X.env.frame=some X.env.locals)
 exf:∀ b∈X.ex,b≠X.env.locals/\∀ x c,X.env.cells.lookup x=some c->c≠b
 bs:∀ b o,X.base.get? b=some o->X.s₀.heap.get? b=some o/\X.H₀ b=none
 bsz:X.base.objs.size<=X.s₀.heap.objs.size
 noex:∀ b o,X.base.get? b=some o->b ∉ X.ex
 exfs:∀ b∈X.ex,b ∉ X.fs
 funs:X.s₀.heap.FunFrames X.base X.outer
 frf:∀ b∈X.fs,X.H₀ b=none
structure Inv (X:Cx)(pins:List (Addr×Obj))(σ:List (Option V))(H:Hp)(s:Qf):Prop where
 ok:X.Ok
 os:s.os=X.s₀.os
 bare:Sm s.gens
 base:Un X.fs X.ex X.H₀ H X.s₀.heap s.heap
 loc:∃ m,s.heap.Ns X.env.locals m/\∀ (i:Nat) (x:Str) (v:V),X.N[i]?=some x->σ[i]?=some (some v)->Vis X.env.scope x->∃ u,RelV v u/\Look X.env s.heap m x u
 cell:∀ x c,X.env.cells.lookup x=some c->∃ v,s.heap.IsCell c v
 free:H X.env.locals=none
 freeC:∀ x c,X.env.cells.lookup x=some c->H c=none
 pin:∀ p∈X.pn++pins,s.heap.get? p.1=some p.2/\H p.1=none/\p.1≠X.env.locals/\p.1 ∉ X.fs/\∀ v,p.2.data≠.cell v
 hok:HOk X.prog X.w H s.heap
 len:σ.length=X.N.length
section
variable {X:Cx}{pins:List (Addr×Obj)}{σ:List (Option V)}{H H':Hp}{s:Qf}{h':Heap}
theorem Cx.Ok.nofr (ok:X.Ok)(e:X.base.get? b=some o):b ∉ X.fs:=fun z=>by
 have:=(ok.funs.mem z).1
 rw [e] at this;cases this
theorem Inv.bs (I:Inv X pins σ H s):∀ b o,X.base.get? b=some o->s.heap.get? b=some o/\H b=none:=fun b o e =>
 ⟨I.base.keep b o (I.ok.bs b o e).1 (I.ok.bs b o e).2 (I.ok.nofr e) (I.ok.noex b o e),I.base.free b o (I.ok.bs b o e).1 (I.ok.bs b o e).2 (I.ok.noex b o e)⟩
theorem Inv.bk (I:Inv X pins σ H s):∀ b o,X.base.get? b=some o->s.heap.get? b=some o:=fun b o e=>(I.bs b o e).1
theorem Inv.mod (I:Inv X pins σ H s):Mod X.K X.mg X.base:=I.ok.mod
theorem Inv.kIn (I:Inv X pins σ H s):X.K.In s.heap:=I.ok.mod.kin.keeps I.bk
theorem Inv.nolimit (I:Inv X pins σ H s):s.heap.NoLimit:=I.ok.mod.nolimit.keeps I.bk
theorem Inv.lt (I:Inv X pins σ H s):X.env.locals < s.heap.objs.size:=let ⟨_,hn,_⟩:=I.loc;hn.lt
theorem Inv.sz (I:Inv X pins σ H s):X.s₀.heap.objs.size<=s.heap.objs.size:=Qr I.ok.above (GG I.lt)
theorem Inv.nofs (I:Inv X pins σ H s)(h:s.heap.objs.size<=a):a ∉ X.fs:=fun z=>by
 obtain ⟨_,o,B,_⟩:=I.ok.funs.mem z
 exact absurd (QA (Qj B) (Qr I.sz h)) (Gz _)
theorem Inv.cne (I:Inv X pins σ H s):∀ x c,X.env.cells.lookup x=some c->c≠X.env.locals:=fun x c e z=>by
 obtain ⟨v,o,W,J⟩:=I.cell x c e
 obtain ⟨m,⟨o',es,ep,D,B,_⟩,_⟩:=I.loc
 rw [z,D] at W;cases W;rw [B] at J;cases J
theorem Inv.funs (I:Inv X pins σ H s):s.heap.FunFrames X.base X.outer:=by
 have all:∀ (l:List Env),(∀ b∈VZ l,b∈X.fs)->X.s₀.heap.FunFrames X.base l->s.heap.FunFrames X.base l:=by
  intro l
  induction l with
  | nil=>intro _ _;trivial
  | cons env r ih =>
   intro W Y
   obtain ⟨Z,⟨L,o,B,hn,ho,hd⟩,hr⟩:=Y
   have D:L∈X.fs:=W L (by unfold VZ;rw [filterMap_cons,B];exact mem_cons_self)
   obtain ⟨sl,e⟩:=I.base.slot L o ho (I.ok.frf L D) D fun z=>I.ok.exfs L z D
   exact ⟨Z,⟨L,_,B,hn,e,hd⟩,ih (fun b J=>W b (by unfold VZ;rw [filterMap_cons,B];exact mem_cons_of_mem _ J)) hr⟩
 exact all X.outer (fun _ J=>J) I.ok.funs
theorem Inv.stack (I:Inv X pins σ H s):s.heap.FunFrames X.base X.stack:=by
 rcases I.ok.stk with e | ⟨e,z⟩
 ·rw [e];exact I.funs
 ·rw [e]
  obtain ⟨m,B,_⟩:=I.loc
  refine .cons (by rw [I.ok.kind];decide) z B ?_ I.funs
  exact Heap.get?_none_of_le (Qr I.ok.bsz I.ok.above)
theorem Inv.stkSub (I:Inv X pins σ H s):∀ b∈VZ X.stack,b∈X.env.locals::X.fs:=fun b z=>by
 rcases I.ok.stk with e | ⟨e,B⟩
 ·rw [e] at z;exact mem_cons_of_mem _ z
 ·rw [e] at z
  unfold VZ at z
  rw [filterMap_cons,B] at z
  exact z
theorem Inv.stkFree (I:Inv X pins σ H s):∀ b∈VZ X.stack,H b=none:=fun b hb=>by
 rcases mem_cons.mp (I.stkSub b hb) with e | hb
 ·rw [e];exact I.free
 ·obtain ⟨_,o,B,_⟩:=I.ok.funs.mem hb
  exact I.base.free b o B (I.ok.frf b hb) fun z=>I.ok.exfs b z hb
theorem Inv.step {g':Array SW}{t':Nat}{d':Nv}{ch:List Addr}(I:Inv X pins σ H s)
 (Y:∀ b∈ch,(b∈X.ex\/X.s₀.heap.objs.size<=b)/\b≠X.env.locals/\(∀ x c,X.env.cells.lookup x=some c->c≠b)/\∀ p∈X.pn++pins,p.1≠b)
 (keep:∀ b o,b≠X.env.locals->b ∉ X.fs->b ∉ ch->s.heap.get? b=some o->H b=none->h'.get? b=some o)
 (slot:∀ b o,b≠X.env.locals->b∈X.fs->b ∉ ch->s.heap.get? b=some o->H b=none->∃ sl,h'.get? b=some { o with slots:=sl }) (D:∀ b o,b ∉ ch->s.heap.get? b=some o->H b=none->H' b=none)
 (there:∀ b o,b ∉ ch->s.heap.get? b=some o->∃ o',h'.get? b=some o')
 (tups:∀ b xs,H b=some (.tup xs)->H' b=some (.tup xs)) (frzs:∀ b o u,H b=some (.frz o u)->H' b=some (.frz o u)) (tbls:∀ b ps,H b=some (.tbl ps)->∃ more,H' b=some (.tbl (ps++more)))
 (ns:∀ m,s.heap.Ns X.env.locals m->h'.Ns X.env.locals m) (hok:HOk X.prog X.w H' h') (hg:Sm g') :
 Inv X pins σ H' { s with heap:=h',gens:=g',drawn:=d',toks:=t' }:=by
 have neL:∀ b o,X.s₀.heap.get? b=some o->b≠X.env.locals:=fun b o e=>Qn (QA (Qj e) I.ok.above)
 have Z:∀ b o,X.s₀.heap.get? b=some o->b ∉ X.ex->b ∉ ch:=fun b o e B hb=>by
  rcases (Y b hb).1 with z | z
  ·exact B z
  ·exact absurd (QA (Qj e) z) (Gz _)
 have W:∀ x c,X.env.cells.lookup x=some c->∀ v,s.heap.IsCell c v->h'.IsCell c v:=fun x c e v ⟨o,ho,hd⟩=>by
  have J:c ∉ ch:=fun z=>(Y c z).2.2.1 x c e rfl
  by_cases hc:c∈X.fs
  ·obtain ⟨sl,q⟩:=slot c o (I.cne x c e) hc J ho (I.freeC x c e)
   exact ⟨_,q,hd⟩
  ·exact ⟨o,keep c o (I.cne x c e) hc J ho (I.freeC x c e),hd⟩
 refine ⟨I.ok,I.os,hg,⟨fun b o e n hb B=>?_,fun b o e n hb B=>?_,fun b o e n B=>?_,fun b o e B=>?_,fun b xs e=>tups b xs (I.base.tups b xs e),fun b o xs e=>frzs b o xs (I.base.frzs b o xs e),fun b ps e=>?_⟩,?_,fun x c e=>?_,?_,fun x c e=>?_,fun p hp=>?_,hok,I.len⟩
 ·exact keep b o (neL b o e) hb (Z b o e B) (I.base.keep b o e n hb B) (I.base.free b o e n B)
 ·obtain ⟨sl,e1⟩:=I.base.slot b o e n hb B
  obtain ⟨sl',e2⟩:=slot b _ (neL b o e) hb (Z b o e B) e1 (I.base.free b o e n B)
  exact ⟨sl',e2⟩
 ·obtain ⟨o',e1⟩:=I.base.there b o e B
  exact D b o' (Z b o e B) e1 (I.base.free b o e n B)
 ·obtain ⟨o',e1⟩:=I.base.there b o e B
  exact there b o' (Z b o e B) e1
 ·obtain ⟨m1,e1⟩:=I.base.tbls b ps e
  obtain ⟨m2,e2⟩:=tbls b _ e1
  exact ⟨m1++m2,by rw [e2,Array.append_assoc]⟩
 ·obtain ⟨m,hn,hl⟩:=I.loc
  refine ⟨m,ns m hn,fun i x v e1 e2 e3=>?_⟩
  obtain ⟨u,r,l⟩:=hl i x v e1 e2 e3
  refine ⟨u,r,?_⟩
  rcases l with l | ⟨k,c,e,z⟩
  ·exact .inl l
  ·exact .inr ⟨k,c,e,W x c e _ z⟩
 ·obtain ⟨v,z⟩:=I.cell x c e
  exact ⟨v,W x c e v z⟩
 ·obtain ⟨m,⟨o,_,_,ho,_⟩,_⟩:=I.loc
  exact D _ o (fun z=>(Y _ z).2.1 rfl) ho I.free
 ·obtain ⟨v,o,ho,hd⟩:=I.cell x c e
  exact D c o (fun z=>(Y c z).2.2.1 x c e rfl) ho (I.freeC x c e)
 ·obtain ⟨e,n,ne,nf,d⟩:=I.pin p hp
  have J:p.1 ∉ ch:=fun z=>(Y p.1 z).2.2.2 p hp rfl
  exact ⟨keep p.1 p.2 ne nf J e n,D p.1 p.2 J e n,ne,nf,d⟩
theorem Inv.un {t':Nat}(I:Inv X pins σ H s)(u:Un X.fs [] H H' s.heap h')(W:HOk X.prog X.w H' h'):Inv X pins σ H' { s with heap:=h',toks:=t' }:=by
 obtain ⟨m,⟨o,es,ep,Z,r⟩,_⟩:=id I.loc
 obtain ⟨sl,hL⟩:=u.any Z I.free (by simp)
 exact I.step (g':=s.gens) (d':=s.drawn) (ch:=[]) (fun _ z=>nomatch z) (fun b o _ Y _ e n=>u.keep b o e n Y (by simp)) (fun b o _ Y _ e n=>u.slot b o e n Y (by simp)) (fun b o _ e n=>u.free b o e n (by simp)) (fun b o _ e=>u.there b o e (by simp)) u.tups u.frzs u.tbls (fun m' hm=>by
  obtain ⟨o',J,D,B,r'⟩:=hm
  rw [Z] at B;cases B
  exact ⟨_,J,D,hL,r'⟩) W I.bare
theorem Inv.call {g':Array SW}{t':Nat}(I:Inv X pins σ H s)(u:Un (VZ X.stack) ch H H' s.heap h')(Z:HOk X.prog X.w H' h')(hg:Sm g')(J:∀ b∈ch,(b∈X.ex\/X.s₀.heap.objs.size<=b)/\b≠X.env.locals/\(∀ x c,X.env.cells.lookup x=some c->c≠b)/\∀ p∈X.pn++pins,p.1≠b):
 Inv X pins σ H' { s with heap:=h',gens:=g',drawn:=d',toks:=t' }:=by
 obtain ⟨m,⟨o,es,ep,ho,r⟩,_⟩:=id I.loc
 obtain ⟨sl,Y⟩:=u.any ho I.free fun z=>(J _ z).2.1 rfl
 exact I.step (ch:=ch) J (fun b o Y hb B e n=>u.keep b o e n (fun z=>(mem_cons.mp (I.stkSub b z)).elim Y hb) B) (fun b o _ _ B e n=>u.any e n B) (fun b o B e n=>u.free b o e n B) (fun b o B e=>u.there b o e B) u.tups u.frzs u.tbls (fun m' hm=>by
  obtain ⟨o',W,ep',D,r'⟩:=hm
  rw [ho] at D;cases D
  exact ⟨_,W,ep',Y,r'⟩) Z hg
theorem Inv.turned {t':Nat}(I:Inv X pins σ H s)(k:∀ b o,b≠B->s.heap.get? b=some o->h'.get? b=some o)(Y:H B=none)(W:B≠X.env.locals)(h1:B∈X.ex\/X.s₀.heap.objs.size<=B)(h2:∀ x c,X.env.cells.lookup x=some c->c≠B)(h3:∀ p∈X.pn++pins,p.1≠B):Inv X pins σ H { s with heap:=h',toks:=t' }:=by
 have J:∀ b u,H b=some u->b≠B:=fun b u e z=>by rw [z,Y] at e;cases e
 refine I.step (g':=s.gens) (d':=s.drawn) (ch:=[B]) (fun b hb=>?_) (fun b o _ _ D e _=>k b o (fun z=>D (by simp [z])) e) (fun b o _ _ D e _=>⟨o.slots,k b o (fun z=>D (by simp [z])) e⟩) (fun _ _ _ _ n=>n)
  (fun b o D e=>⟨o,k b o (fun z=>D (by simp [z])) e⟩) (fun _ _ e=>e) (fun _ _ _ e=>e) (fun b ps e=>⟨#[],by rw [e];simp⟩) (fun m Z=>?_) (fun b u e=>?_) I.bare
 ·have e:b=B:=by simpa using hb
  subst e
  exact ⟨h1,W,h2,h3⟩
 ·obtain ⟨o,es,ep,ho,r⟩:=Z
  exact ⟨o,es,ep,k _ o (Jv W) ho,r⟩
 ·refine (I.hok b u e).stay (fun c v D q=>k c v ?_ q) (fun _ q=>q) fun _ _ q=>q
  rcases D with z | z
  ·rw [z];exact J b u e
  ·exact J c _ z
theorem Inv.tok (I:Inv X pins σ H s)(t:Nat):Inv X pins σ H { s with toks:=t }:=I.un (h':=s.heap) (t':=t) Un.refl I.hok
theorem Inv.kept {t':Nat}(I:Inv X pins σ H s)(k:∀ b u,s.heap.get? b=some u->h'.get? b=some u):Inv X pins σ H { s with heap:=h',toks:=t' }:=I.un (Un.kept k) (I.hok.kept k)
theorem Inv.laid {a:Addr}{t':Nat}(I:Inv X pins σ H s)(k:∀ b u,s.heap.get? b=some u->h'.get? b=some u)(hp:s.heap.objs.size<=a)(new:ObjOk X.prog X.w (upd H a o) h' a o):
 Inv X pins σ (upd H a o) { s with heap:=h',toks:=t' }:=I.un (Un.laid k hp (I.hok.fresh hp)) (I.hok.laid k hp new)
theorem Inv.write {x e:Addr}{t':Nat}(I:Inv X pins σ H s)(B:Mut (H x))(D:e=x\/H e=some (.own x))(k:∀ b u,b≠e->s.heap.get? b=some u->h'.get? b=some u)(z:∃ u,h'.get? e=some u)(new:ObjOk X.prog X.w (upd H x o) h' x o):Inv X pins σ (upd H x o) { s with heap:=h',toks:=t' }:=I.un (Un.write B D k z) (I.hok.write B D k z new)
theorem Inv.pins_of (I:Inv X pins σ H s)(h:∀ p∈B,s.heap.get? p.1=some p.2/\H p.1=none/\p.1≠X.env.locals/\p.1 ∉ X.fs/\∀ v,p.2.data≠.cell v):Inv X B σ H s :=
 ⟨I.ok,I.os,I.bare,I.base,I.loc,I.cell,I.free,I.freeC,fun p hp=>(mem_append.mp hp).elim (fun z=>I.pin p (Tb _ z)) (h p),I.hok,I.len⟩
theorem Zfa {N:List Str}(B:N.Nodup){i j:Nat}{x:Str}(a:N[i]?=some x)(b:N[j]?=some x):i=j:=by
 obtain ⟨h1,e1⟩:=Qg.mp a
 obtain ⟨h2,z⟩:=Qg.mp b
 exact (List.getElem_inj B).mp (e1.trans z.symm)
theorem ZdK {i:Nat}(I:Inv X pins σ H s)(hN:X.N.Nodup)(hi:X.N[i]?=some x)(J:Loc X.env.scope x)(r:RelV v u)(h:∀ s',Inv X pins (σ.set i (some v)) H s'->(∃ a,Pg a s.heap s'.heap/\(a=X.env.locals\/X.env.cells.lookup x=some a))->Q () s')(hf:X.fn x=true\/X.env.scope.names.lookup x=some .local:=by first | exact .inl rfl | exact .inr rfl | assumption):Qp M A (storeName X.env x u) Q E s:=by
 obtain ⟨m,hn,hl⟩:=id I.loc
 have hcls:(X.env.scope.kind == .class || (X.env.scope.kind == .module&&X.env.locals != X.env.globals))=false:=by rw [I.ok.kind];rfl
 have Z:i < σ.length:=by rw [I.len];exact (Qg.mp hi).1
 have cne:=I.cne
 have D:∀ {a:Addr} {h':Heap},(∃ o,s.heap.get? a=some o/\H a=none)->Pg a s.heap h'->HOk X.prog X.w H h':=fun {a h'} ha B b ob e=>by
  obtain ⟨_,_,W⟩:=ha
  refine (I.hok b ob e).stay (fun c w' hc q=>(B.2 c ?_).trans q) (fun _ q=>q) fun _ _ q=>q
  rintro rfl
  rcases hc with rfl | hc
  ·rw [W] at e;cases e
  ·rw [W] at hc;cases hc
 rcases J with hk | hk
 ·refine wpAny_storeName_local hk hn (fun h' hn' B=>?_) hcls
  obtain ⟨oL,_,_,hoL,_⟩:=id hn
  refine h _ ⟨I.ok,I.os,I.bare,⟨fun b o e n hb J=>?_,fun b o e n hb J=>?_,I.base.free,fun b o e J=>?_,I.base.tups,I.base.frzs,I.base.tbls⟩,⟨_,hn',fun j y v' e1 Y e3=>?_⟩,fun y c e=>?_,I.free,I.freeC,fun p hp=>?_,D ⟨oL,hoL,I.free⟩ B,by simpa using I.len⟩ ⟨_,B,.inl rfl⟩
  ·exact (B.2 b (Qn (QA (Qj e) I.ok.above))).trans (I.base.keep b o e n hb J)
  ·obtain ⟨sl,e1⟩:=I.base.slot b o e n hb J
   exact ⟨sl,(B.2 b (Qn (QA (Qj e) I.ok.above))).trans e1⟩
  ·obtain ⟨o',e1⟩:=I.base.there b o e J
   exact ⟨o',(B.2 b (Qn (QA (Qj e) I.ok.above))).trans e1⟩
  ·by_cases hj:j=i
   ·subst hj
    rw [hi] at e1;cases e1
    rw [GH Z] at Y
    cases Y
    exact ⟨u,r,.inl ⟨hk,by simp⟩⟩
   ·rw [Tc (Jv hj)] at Y
    obtain ⟨u',r',q⟩:=hl j y v' e1 Y e3
    refine ⟨u',r',?_⟩
    rcases q with ⟨k,e⟩ | ⟨k,c,e,z⟩
    ·refine .inl ⟨k,?_⟩
     have:y≠x:=fun e=>hj (Zfa hN e1 (e ▸ hi))
     simp [this,e]
    ·exact .inr ⟨k,c,e,z.sameBut B (cne y c e)⟩
  ·obtain ⟨w',z⟩:=I.cell y c e
   exact ⟨w',z.sameBut B (cne y c e)⟩
  ·obtain ⟨e,n,ne,nf,d⟩:=I.pin p hp
   exact ⟨(B.2 p.1 ne).trans e,n,ne,nf,d⟩
 ·have hfn:X.fn x=true:=by
   rcases hf with z | z
   ·exact z
   ·rw [z] at hk;cases hk
  obtain ⟨c,hc⟩:=I.ok.has x (.inl hk)
  obtain ⟨w',z⟩:=I.cell x c hc
  refine wpAny_storeName_cell I.ok.kind hk hc z (fun h' hc' B=>?_)
  obtain ⟨oc,hoc,hocd⟩:=id z
  refine h { s with heap:=h' } ⟨I.ok,I.os,I.bare,⟨fun b o e n hb J=>?_,fun b o e n hb J=>?_,I.base.free,fun b o e J=>?_,I.base.tups,I.base.frzs,I.base.tbls⟩,⟨m,hn.sameBut B (Jv (cne x c hc)),fun j y v' e1 Y e3=>?_⟩,fun y c' e=>?_,I.free,I.freeC,fun p hp=>?_,D ⟨oc,hoc,I.freeC x c hc⟩ B,by simpa using I.len⟩ ⟨c,B,.inr hc⟩
  ·exact (B.2 b (Qn (QA (Qj e) (I.ok.cab x c hfn hc)))).trans (I.base.keep b o e n hb J)
  ·obtain ⟨sl,e1⟩:=I.base.slot b o e n hb J
   exact ⟨sl,(B.2 b (Qn (QA (Qj e) (I.ok.cab x c hfn hc)))).trans e1⟩
  ·obtain ⟨o',e1⟩:=I.base.there b o e J
   exact ⟨o',(B.2 b (Qn (QA (Qj e) (I.ok.cab x c hfn hc)))).trans e1⟩
  ·by_cases hj:j=i
   ·subst hj
    rw [hi] at e1;cases e1
    rw [GH Z] at Y
    cases Y
    exact ⟨u,r,.inr ⟨.inl hk,c,hc,hc'⟩⟩
   ·rw [Tc (Jv hj)] at Y
    obtain ⟨u',r',q⟩:=hl j y v' e1 Y e3
    refine ⟨u',r',?_⟩
    rcases q with q | ⟨k,c',e,z'⟩
    ·exact .inl q
    ·refine .inr ⟨k,c',e,z'.sameBut B ?_⟩
     rintro rfl
     exact hj (Zfa hN e1 (I.ok.inj _ _ _ e hc ▸ hi))
  ·by_cases hcc:c'=c
   ·subst hcc;exact ⟨_,hc'⟩
   ·obtain ⟨w2,z2⟩:=I.cell y c' e
    exact ⟨w2,z2.sameBut B hcc⟩
  ·obtain ⟨e,n,ne,nf,d⟩:=I.pin p hp
   refine ⟨(B.2 p.1 ?_).trans e,n,ne,nf,d⟩
   intro q
   rw [q,hoc] at e
   have q':oc=p.2:=Qo e
   exact d w' (by rw [<- q'];exact hocd)
theorem XJ {i:Nat}(I:Inv X pins σ H s)(B:X.N.Nodup)(hi:X.N[i]?=some x)(J:Loc X.env.scope x)(r:RelV v u)(h:∀ s',Inv X pins (σ.set i (some v)) H s'->Q () s')(D:X.fn x=true\/X.env.scope.names.lookup x=some .local:=by first | exact .inl rfl | exact .inr rfl | assumption):Qp M A (storeName X.env x u) Q E s :=
 ZdK I B hi J r (fun s' z _=>h s' z) D
theorem Inv.call' {ch:List Addr}(I:Inv X pins σ H s)(J:s'.os=s.os)(u:Un (VZ X.stack) ch H H' s.heap s'.heap)(z:HOk X.prog X.w H' s'.heap)(D:Sm s'.gens)(B:∀ b∈ch,(b∈X.ex\/X.s₀.heap.objs.size<=b)/\b≠X.env.locals/\(∀ x c,X.env.cells.lookup x=some c->c≠b)/\∀ p∈X.pn++pins,p.1≠b):Inv X pins σ H' s':=by
 obtain ⟨h',g',d',t',o'⟩:=s'
 have e:o'=s.os:=J
 subst e
 exact I.call (g':=g') (t':=t') (d':=d') u z D B
end
abbrev XK:=Qb->Option Addr->Hp->Prop
abbrev St:=List (Option V)
abbrev VK:=V->Hp->Prop
abbrev TE:=St->Hp->VK->Prop
abbrev TT:=St->Hp->(Bool->Hp->Prop)->Prop
abbrev TA:=St->Hp->(List V->Hp->Prop)->Prop
structure YF where
 nx:St->Hp->Prop
 rt:VK
 bk:St->Hp->Prop:=fun _ _=>False
 ct:St->Hp->Prop:=fun _ _=>False
abbrev TS:=YF->St->Hp->Prop
def EP (X:Cx)(pins:List (Addr×Obj))(σ:St)(Q:VK)(u:Qb)(s':Qf):Prop:=∃ v H',Inv X pins σ H' s'/\RelV v u/\Q v H'
def TP (X:Cx)(pins:List (Addr×Obj))(σ:St)(Q:Bool->Hp->Prop)(b:Bool)(s':Qf):Prop:=∃ H',Inv X pins σ H' s'/\Q b H'
def AP (X:Cx)(pins:List (Addr×Obj))(σ:St)(Q:List V->Hp->Prop)(us:List Qb)(s':Qf):Prop:=∃ vs H',Inv X pins σ H' s'/\Vals vs us/\Q vs H'
def SP (X:Cx)(pins:List (Addr×Obj))(D:YF)(f:Flow)(s':Qf):Prop :=
 match f with
 | .next=>∃ σ' H',Inv X pins σ' H' s'/\D.nx σ' H'
 | .brk=>∃ σ' H',Inv X pins σ' H' s'/\D.bk σ' H'
 | .cont=>∃ σ' H',Inv X pins σ' H' s'/\D.ct σ' H'
 | .ret u=>∃ v σ' H',Inv X pins σ' H' s'/\RelV v u/\D.rt v H'
def PE (X:Cx)(e:Expr)(t:TE):Prop :=
 ∀ (pins:List (Addr×Obj)) (s:Qf) (σ:St) (H:Hp) (Q:VK),Inv X pins σ H s->t σ H Q->Qp (Qt X.prog X.w) X.A (eval e X.env) (EP X pins σ Q) X.xe s
def PT (X:Cx)(e:Expr)(t:TT):Prop :=
 ∀ (pins:List (Addr×Obj)) (s:Qf) (σ:St) (H:Hp) (Q:Bool->Hp->Prop),Inv X pins σ H s->t σ H Q->Qp (Qt X.prog X.w) X.A (isTrue e X.env (eval e X.env)) (TP X pins σ Q) X.xe s
def PW (X:Cx)(e:Expr)(t:TT):Prop :=
 ∀ (whole:Sem Qb) (pins:List (Addr×Obj)) (s:Qf) (σ:St) (H:Hp) (Q:Bool->Hp->Prop),Inv X pins σ H s->t σ H Q->Qp (Qt X.prog X.w) X.A (isTrue e X.env whole) (TP X pins σ Q) X.xe s
theorem PW.pt (h:PW X e t):PT X e t:=h _
def PA (X:Cx)(es:List Expr)(t:TA):Prop :=
 ∀ (pos:Pos) (pins:List (Addr×Obj)) (s:Qf) (σ:St) (H:Hp) (Q:List V->Hp->Prop),Inv X pins σ H s->t σ H Q->Qp (Qt X.prog X.w) X.A (spliced (Jm pos (QH es X.env))) (AP X pins σ Q) X.xe s
def PS (X:Cx)(st:Stmt)(t:TS):Prop :=
 ∀ (pins:List (Addr×Obj)) (s:Qf) (σ:St) (H:Hp) (D:YF),Inv X pins σ H s->t D σ H->Qp (Qt X.prog X.w) X.A (exec st X.env) (SP X pins D) X.xe s
def PSs (X:Cx)(st:List Stmt)(t:TS):Prop :=
 ∀ (pins:List (Addr×Obj)) (s:Qf) (σ:St) (H:Hp) (D:YF),Inv X pins σ H s->t D σ H->Qp (Qt X.prog X.w) X.A (execs st X.env) (SP X pins D) X.xe s
theorem Zw {B:Type}{t:Sem B}{Q z:B->Qf->Prop}{M:Model}{A:QL}{E:Qb->Qf->Prop}{s:Qf}(h:Qp M A t Q E s)(D:∀ a s,Q a s->z a s):Qp M A t z E s:=Gj h D fun _ _ x=>x
section
variable {X:Cx}
inductive ZjK (i:Nat)(σ:St)(H:Hp)(Q:VK):Prop
 | mk (v:_):σ[i]?=some (some v)->Q v H->ZjK i σ H Q
def Zao (i:Nat):TE:=fun σ H Q=>ZjK i σ H Q
def tC (v:V):TE:=fun _ H Q=>Q v H
theorem ZoJ {i:Nat}(hN:X.N[i]?=some x)(Z:Vis X.env.scope x)(J:(x == ("__debug__":Str))=false:=by decide)(D:(x == ("__classdict__":Str))=false:=by decide):PE X (.Name x pos) (Zao i):=by
 intro pins s σ H Q I h
 obtain ⟨v,e,h⟩:=h
 obtain ⟨m,hn,Y⟩:=I.loc
 obtain ⟨u,r,l⟩:=Y i x v hN e Z
 have B:EP X pins σ Q u s:=⟨v,H,I,r,h⟩
 rcases l with ⟨hk,hm⟩ | ⟨hk,c,W,z⟩
 ·exact OQ (Td I.ok.kind hk hn hm B) J
 ·rcases hk with hk | hk
  ·exact OQ (Oy I.ok.kind hk W z B) J
  ·exact OQ (wpAny_loadName_free I.ok.kind hk W z B D) J
theorem Zd {i j pos}:PE X (.Constant (.int i) j pos) (tC (.int i)):=fun _ _ _ H _ I h=>OR ⟨.int i,H,I.tok _,⟨_,rfl⟩,h⟩
theorem Uc {b j pos}:PE X (.Constant (.bool b) j pos) (tC (.bl b)):=fun _ _ _ H _ I h=>Constant_bool ⟨.bl b,H,I,rfl,h⟩
theorem UZ {j pos}:PE X (.Constant .none j pos) (tC .non):=fun _ _ _ H _ I h=>OG ⟨.non,H,I,rfl,h⟩
theorem ZU {x j pos}:PE X (.Constant (.str x) j pos) (tC (.str x)):=fun _ _ _ H _ I h=>Calls.Constant_str ⟨.str x,H,I.tok _,⟨_,rfl⟩,h⟩
def Gl (X:Cx)(x:Str):Prop:=X.env.kindOf x=some .globalImplicit
theorem ZcL (I:Inv X pins σ H s)(D:Gl X x)(B:X.mg x=some u)(h:Q u s)(z:(x == ("__debug__":Str))=false:=by decide):Qp (Qt X.prog X.w) X.A (eval (.Name x pos) X.env) Q E s :=
 TM I.ok.kind D (Calls.loadGlobal_global (by rw [I.ok.glob];exact I.mod.glob.keeps I.bk) B h) z
theorem WT (I:Inv X pins σ H s)(z:Gl X x)(W:X.mg x=none)(B:Pf x=some u)(h:Q u s)(D:x≠"__name__":=by decide)(J:(x == ("__debug__":Str))=false:=by decide):Qp (Qt X.prog X.w) X.A (eval (.Name x pos) X.env) Q E s:=by
 obtain ⟨Y,h1,h2⟩:=I.mod.blt
 exact TM I.ok.kind z (Calls.loadGlobal_builtin (by rw [I.ok.glob];exact I.mod.glob.keeps I.bk) W (by rw [I.ok.blt];exact h1.keeps I.bk) ((h2 x D).trans B) h) J
theorem Xv (D:Gl X x)(B:X.mg x=some u)(r:RelV v u)(z:(x == ("__debug__":Str))=false:=by decide):PE X (.Name x pos) (tC v) :=
 fun _ _ _ H _ I h=>ZcL I D B ⟨v,H,I,r,h⟩ z
theorem Wi (z:Gl X x)(W:X.mg x=none)(B:Pf x=some u)(r:RelV v u)(D:x≠"__name__":=by decide)(J:(x == ("__debug__":Str))=false:=by decide):PE X (.Name x pos) (tC v) :=
 fun _ _ _ H _ I h=>WT I z W B ⟨v,H,I,r,h⟩ D J
variable {a b:Expr}{ta tb:TE}{pos:Pos}
def PC (X:Cx)(op:CmpOp)(a b:Expr)(t:TE):Prop :=
 ∀ (pins:List (Addr×Obj)) (s:Qf) (σ:St) (H:Hp) (Q:VK),Inv X pins σ H s->t σ H Q ->
  Qp (Qt X.prog X.w) X.A (eval a X.env) (fun v s₁=>Qp (Qt X.prog X.w) X.A (eval b X.env) (fun u s₂=>Qp (Qt X.prog X.w) X.A (Gv op v u) (EP X pins σ Q) X.xe s₂) X.xe s₁) X.xe s
theorem ZeZ (b:Expr)(h:z≠.In)(h2:z≠.NotIn):Je z b=false:=by
 have e1:(z == CmpOp.In)=false:=by cases z<;>first | rfl | exact absurd rfl h
 have B:(z == CmpOp.NotIn)=false:=by cases z<;>first | rfl | exact absurd rfl h2
 cases b<;>simp [Je,e1,B]
def tIsN (ta:TE):TE:=fun σ H Q=>ta σ H fun x H1=>Q (.bl (decide (x=.non))) H1
def Zqk (ta:TE):TE:=fun σ H Q=>ta σ H fun x H1=>Q (.bl (!decide (x=.non))) H1
theorem RelV.none_iff (r:RelV x v):(v == Jc)=decide (x=.non):=by
 cases x with
 | non=>cases r;rfl
 | bl _=>cases r;rfl
 | int _=>obtain ⟨t,rfl⟩:=r;rfl
 | str _=>obtain ⟨t,rfl⟩:=r;rfl
 | byt _=>obtain ⟨t,rfl⟩:=r;rfl
 | flt _=>obtain ⟨t,rfl⟩:=r;rfl
 | ref _=>cases r;rfl
 | ty _=>cases r;rfl
theorem Zah {j pos'}(B:PE X a ta):PC X .Is a (.Constant .none j pos') (tIsN ta):=by
 intro pins s σ H Q I h
 refine Zw (B pins s σ H _ I h) fun v s1 z=>?_
 obtain ⟨x,H1,D,r1,J⟩:=z
 exact OG (is_none_gen ⟨.bl _,H1,D,by rw [r1.none_iff];rfl,J⟩)
theorem Znd {j pos'}(B:PE X a ta):PC X .IsNot a (.Constant .none j pos') (Zqk ta):=by
 intro pins s σ H Q I h
 refine Zw (B pins s σ H _ I h) fun v s1 z=>?_
 obtain ⟨x,H1,D,r1,J⟩:=z
 exact OG (isnot_none_gen ⟨.bl _,H1,D,by rw [r1.none_iff];rfl,J⟩)
inductive tB_R (Q:Bool->Hp->Prop)(x:V)(H1:Hp):Prop
 | mk (c:_):x=.bl c->Q c H1->tB_R Q x H1
def tB (t:TE):TT:=fun σ H Q=>t σ H fun x H1=>tB_R Q x H1
theorem Zch (h:PC X z a b t)(h1:Je z b=false:=by first | exact ZeZ _ (by decide) (by decide) | rfl):PE X (.Compare a [z] [b] pos) t:=fun pins s σ H Q I B=>wpAny_Compare1 (h pins s σ H Q I B) h1
theorem Zfl (h:PC X z a b t)(h1:Je z b=false:=by first | exact ZeZ _ (by decide) (by decide) | rfl):PT X (.Compare a [z] [b] pos) (tB t):=by
 intro pins s σ H Q I W
 refine RT (Zw (h pins s σ H _ I W) fun v s1 h1=>Zw h1 fun u s2 h2=>Zw h2 fun c Y J=>?_) h1
 obtain ⟨x,H1,B,r1,D⟩:=J
 obtain ⟨d,rfl,q⟩:=D
 cases r1
 exact Gf ⟨H1,B,q⟩
theorem Wu (h:PE X e t)(D:∀ z,isTrue e X.env z=(do let v <- z;Ro e.pos;Ph [v] (truthy v)):=by intro _;rfl):PT X e (tB t):=by
 intro pins s σ H Q I Y
 refine isTrue_plain (Zw (h pins s σ H _ I Y) fun v s1 W=>?_) (D _)
 obtain ⟨x,H1,B,r1,J⟩:=W
 obtain ⟨d,rfl,q⟩:=J
 cases r1
 exact Gf ⟨H1,B,q⟩
variable {tA tB':TT}{rest:List Expr}
def tAnd (t u:TT):TT:=fun σ H Q=>t σ H fun c H1=>if c=true then u σ H1 Q else Q false H1
def tOr (t u:TT):TT:=fun σ H Q=>t σ H fun c H1=>if c=true then Q true H1 else u σ H1 Q
def tNot (t:TT):TT:=fun σ H Q=>t σ H fun c H1=>Q (!c) H1
theorem Zgv (z:PT X a tA):PW X (.BoolOp .And [a] pos) tA:=by
 intro B pins s σ H Q I h
 refine isTrue_and (Zw (z pins s σ H Q I h) fun c s1 e=>?_)
 cases c with
 | true=>exact isTrue_and_nil e
 | false=>exact e
theorem Zfn (z:PT X a tA):PW X (.BoolOp .Or [a] pos) tA:=by
 intro B pins s σ H Q I h
 refine isTrue_or (Zw (z pins s σ H Q I h) fun c s1 e=>?_)
 cases c with
 | false=>exact isTrue_or_nil e
 | true=>exact e
theorem Zjm (J:PT X a tA)(Y:PW X (.BoolOp .And (b::rest) pos) tB'):PW X (.BoolOp .And (a::b::rest) pos) (tAnd tA tB'):=by
 intro W pins s σ H Q I h
 refine isTrue_and (Zw (J pins s σ H _ I h) fun c s1 D=>?_)
 obtain ⟨H1,z,B⟩:=D
 cases c with
 | true=>exact Y W pins s1 σ H1 Q z B
 | false=>exact ⟨H1,z,B⟩
theorem ZhF (J:PT X a tA)(Y:PW X (.BoolOp .Or (b::rest) pos) tB'):PW X (.BoolOp .Or (a::b::rest) pos) (tOr tA tB'):=by
 intro W pins s σ H Q I h
 refine isTrue_or (Zw (J pins s σ H _ I h) fun c s1 D=>?_)
 obtain ⟨H1,z,B⟩:=D
 cases c with
 | true=>exact ⟨H1,z,B⟩
 | false=>exact Y W pins s1 σ H1 Q z B
theorem Zcl (z:PT X a tA):PT X (.UnaryOp .Not a pos) (tNot tA):=by
 intro pins s σ H Q I h
 exact isTrue_not (z pins s σ H (fun c H1=>Q (!c) H1) I h)
inductive ZgE (tb:TE)(σ:St)(Q:VK)(x:V)(H1:Hp):Prop
 | mk (c:_):x=.bl c->(if c=true then tb σ H1 Q else Q (.bl false) H1)->ZgE tb σ Q x H1
def Zqd (ta tb:TE):TE:=fun σ H Q=>ta σ H fun x H1=>ZgE tb σ Q x H1
inductive ZgH (Q:VK)(x:V)(H1:Hp):Prop
 | mk (c:_):x=.bl c->Q (.bl (!c)) H1->ZgH Q x H1
def Zql (ta:TE):TE:=fun σ H Q=>ta σ H fun x H1=>ZgH Q x H1
theorem Va {op}(h:PE X a t):PE X (.BoolOp op [a] pos) t:=fun pins s σ H Q I z=>BoolOp_one (h pins s σ H Q I z)
theorem WU (J:PE X a ta)(W:PE X (.BoolOp .And (b::rest) pos) tb):PE X (.BoolOp .And (a::b::rest) pos) (Zqd ta tb):=by
 intro pins s σ H Q I h
 refine BoolOp_and (Zw (J pins s σ H _ I h) fun v s1 D=>?_)
 obtain ⟨x,H1,B,r1,z⟩:=D
 obtain ⟨c,rfl,z⟩:=z
 cases r1
 refine Gf ?_
 cases c with
 | true=>exact W pins s1 σ H1 Q B z
 | false=>exact ⟨.bl false,H1,B,rfl,z⟩
theorem ZoI (D:PE X a ta):PE X (.UnaryOp .Not a pos) (Zql ta):=by
 intro pins s σ H Q I h
 refine UnaryOp_ (Zw (D pins s σ H _ I h) fun v s1 B=>?_)
 obtain ⟨x,H1,J,r1,z⟩:=B
 obtain ⟨c,rfl,z⟩:=z
 cases r1
 exact not_of (Gf ⟨.bl (!c),H1,J,rfl,z⟩)
def tIf (t:TT)(ta tb:TE):TE:=fun σ H Q=>t σ H fun c H1=>if c=true then ta σ H1 Q else tb σ H1 Q
theorem Uu (D:PT X c tA)(W:PE X a ta)(Y:PE X b tb):PE X (.IfExp c a b pos) (tIf tA ta tb):=by
 intro pins s σ H Q I h
 refine wpAny_IfExp (Zw (D pins s σ H _ I h) fun d s1 J=>?_)
 obtain ⟨H1,z,B⟩:=J
 cases d with
 | true=>exact W pins s1 σ H1 Q z B
 | false=>exact Y pins s1 σ H1 Q z B
end
def SqL (K:Qa)(H:Hp)(a:Addr)(xs:List V):Prop :=
 Rd H a (.lst xs) \/
  ∃ (o:Obj) (its:Array Qb) (n:Nat),K.lookup a=some o/\o.cls=.type "list"/\o.dict=none/\o.data=.seq its n/\its.size<=Qi/\Vals xs its.toList
def SqT (K:Qa)(H:Hp)(a:Addr)(xs:List V):Prop :=
 Rd H a (.tup xs) \/
  ∃ (o:Obj) (its:Array Qb) (n:Nat),K.lookup a=some o/\o.cls=.type "tuple"/\o.data=.seq its n/\its.size<=Qi/\Vals xs its.toList
def ZgU:Qb->Option V
 | .none=>some .non
 | .bool b=>some (.bl b)
 | .int i _=>some (.int i)
 | .str x _=>some (.str x)
 | .bytes b _=>some (.byt b)
 | .float b _=>some (.flt b)
 | .ref a=>some (.ref a)
 | .type n=>some (.ty n)
 | _=>none
theorem RelV.abs (r:RelV x u):ZgU u=some x:=by
 cases x with
 | non=>cases r;rfl
 | bl _=>cases r;rfl
 | int _=>obtain ⟨t,rfl⟩:=r;rfl
 | str _=>obtain ⟨t,rfl⟩:=r;rfl
 | byt _=>obtain ⟨t,rfl⟩:=r;rfl
 | flt _=>obtain ⟨t,rfl⟩:=r;rfl
 | ref _=>cases r;rfl
 | ty _=>cases r;rfl
theorem RelV.inj (r:RelV x u)(q:RelV y u):x=y:=Qo (r.abs.symm.trans q.abs)
theorem Vals.inj:∀{xs ys:List V}{us:List Qb},Vals xs us->Vals ys us->xs=ys
 | _,_,_,.nil,.nil=>rfl
 | _,_,_,.cons r t,.cons r' t'=>by rw [r.inj r',Vals.inj t t']
section
variable {X:Cx}{pins:List (Addr×Obj)}{σ:St}{H:Hp}{s:Qf}{a:Addr}{xs ys:List V}
theorem SqL.of {K:Qa}(h:H a=some (.lst xs)):SqL K H a xs:=.inl (.inl h)
theorem SqT.of {K:Qa}(h:H a=some (.tup xs)):SqT K H a xs:=.inl (.inl h)
theorem Inv.list (I:Inv X pins σ H s)(h:SqL X.K H a xs):∃ B:List Qb,Vals xs B/\PlainL s.heap a B.toArray/\xs.length<=sizeLine:=by
 rcases h with h | ⟨o,B,n,D,J,Y,W,hz,r⟩
 ·obtain ⟨z,B,n,r,e⟩:=h.ok I.hok
  exact ⟨B,r,⟨_,n,e,rfl,rfl,rfl⟩,z⟩
 ·refine ⟨B.toList,r,⟨o,n,I.kIn a o D,J,Y,by simpa using W⟩,?_⟩
  have e:=r.length
  simp only [Qu] at e
  omega
theorem Inv.tuple (I:Inv X pins σ H s)(h:SqT X.K H a xs):∃ B:List Qb,Vals xs B/\My s.heap a B.toArray/\xs.length<=sizeLine:=by
 rcases h with h | ⟨o,B,n,D,J,W,hz,r⟩
 ·obtain ⟨z,B,r,p⟩:=h.ok I.hok
  exact ⟨B,r,p,z⟩
 ·refine ⟨B.toList,r,⟨o,I.kIn a o D,J,n,by simpa using W⟩,?_⟩
  have e:=r.length
  simp only [Qu] at e
  omega
theorem Inv.list_inj (I:Inv X pins σ H s)(h:SqL X.K H a xs)(h':SqL X.K H a ys):xs=ys:=by
 obtain ⟨z,r,⟨o,n,e,_,_,d⟩,_⟩:=I.list h
 obtain ⟨its',D,⟨o',J,B,_,_,d'⟩,_⟩:=I.list h'
 rw [e] at B;cases B
 rw [d] at d'
 injection d' with d1 _
 have:z=its':=by simpa using congrArg Array.toList d1
 subst this
 exact r.inj D
theorem Inv.tuple_inj (I:Inv X pins σ H s)(h:SqT X.K H a xs)(h':SqT X.K H a ys):xs=ys:=by
 obtain ⟨z,r,⟨o,e,_,n,d⟩,_⟩:=I.tuple h
 obtain ⟨its',D,⟨o',B,_,J,d'⟩,_⟩:=I.tuple h'
 rw [e] at B;cases B
 rw [d] at d'
 injection d' with d1 _
 have:z=its':=by simpa using congrArg Array.toList d1
 subst this
 exact r.inj D
end
abbrev Cx.wish (X:Cx)(E:Qb->Qf->Prop):Cx:={ X with xe:=E }
abbrev Cx.nox (X:Cx):Cx:=X.wish fun _ _=>False
theorem Cx.Ok.wish {X:Cx}(ok:X.Ok)(E:Qb->Qf->Prop):(X.wish E).Ok :=
 ⟨ok.mod,ok.kind,ok.glob,ok.blt,ok.above,ok.inj,ok.has,ok.cab,ok.hd,ok.frames,ok.stk,ok.exf,ok.bs,ok.bsz,ok.noex,ok.exfs,ok.funs,ok.frf⟩
theorem Cx.Ok.unwish {X:Cx}{E:Qb->Qf->Prop}(ok:(X.wish E).Ok):X.Ok :=
 ⟨ok.mod,ok.kind,ok.glob,ok.blt,ok.above,ok.inj,ok.has,ok.cab,ok.hd,ok.frames,ok.stk,ok.exf,ok.bs,ok.bsz,ok.noex,ok.exfs,ok.funs,ok.frf⟩
section
variable {X:Cx}{pins:List (Addr×Obj)}{σ:St}{H:Hp}{s:Qf}{E:Qb->Qf->Prop}
theorem Inv.wish (I:Inv X pins σ H s)(E:Qb->Qf->Prop):Inv (X.wish E) pins σ H s:=⟨I.ok.wish E,I.os,I.bare,I.base,I.loc,I.cell,I.free,I.freeC,I.pin,I.hok,I.len⟩
theorem Inv.unwish (I:Inv (X.wish E) pins σ H s):Inv X pins σ H s:=⟨I.ok.unwish,I.os,I.bare,I.base,I.loc,I.cell,I.free,I.freeC,I.pin,I.hok,I.len⟩
theorem SP.unwish (h:SP (X.wish E) pins D f s'):SP X pins D f s':=by
 cases f with
 | next=>obtain ⟨z,H',I,q⟩:=h;exact ⟨z,H',I.unwish,q⟩
 | brk=>obtain ⟨z,H',I,q⟩:=h;exact ⟨z,H',I.unwish,q⟩
 | cont=>obtain ⟨z,H',I,q⟩:=h;exact ⟨z,H',I.unwish,q⟩
 | ret u=>obtain ⟨v,z,H',I,r,q⟩:=h;exact ⟨v,z,H',I.unwish,r,q⟩
theorem PSs.nox {st:List Stmt}{t:TS}(h:PSs X.nox st t):PSs X st t:=fun pins s σ H D I B =>
 Gj (h pins s σ H D (I.wish _) B) (fun _ _ q=>q.unwish) fun _ _ z=>GE z
end
section
variable {X:Cx}{st:Stmt}{rest:List Stmt}{t u:TS}{e:Expr}{te:TE}{pos:Pos}
def Zqi:TS:=fun D σ H=>D.nx σ H
def YD (t u:TS):TS:=fun D σ H=>t { D with nx:=u D } σ H
theorem ZV:PSs X [] Zqi:=fun _ _ σ H _ I h=>To ⟨σ,H,I,h⟩
theorem Ze (h1:PS X st t)(h2:PSs X rest u):PSs X (st::rest) (YD t u):=by
 intro pins s σ H D I h
 refine Mc (Zw (h1 pins s σ H { D with nx:=u D } I h) fun f s1 q=>?_)
 cases f with
 | next =>
  obtain ⟨z,H',B,q⟩:=q
  exact h2 pins s1 z H' D B q
 | ret v=>exact q
 | brk=>exact q
 | cont=>exact q
theorem Zg (h1:PS X st t):PSs X [st] t:=by
 intro pins s σ H D I h
 refine Mc (Zw (h1 pins s σ H D I h) fun f s1 q=>?_)
 cases f with
 | next=>exact To q
 | ret v=>exact q
 | brk=>exact q
 | cont=>exact q
theorem Inv.quiet (I:Inv X pins σ H s):interactive X.env=false:=by simp [interactive,I.ok.kind]
def Zqh (te:TE):TS:=fun D σ H=>te σ H fun _ H1=>D.nx σ H1
theorem ZY (z:PE X e te)(W:SX e none pos.line X.env=pure false:=by rfl):PS X (.Expr e pos) (Zqh te):=by
 intro pins s σ H D I h
 exact wpAny_Expr_any (Zw (z pins s σ H _ I h) fun v s1 ⟨x,H1,B,r1,J⟩=>⟨σ,H1,B,J⟩) I.quiet W
def tRet (te:TE):TS:=fun D σ H=>te σ H D.rt
theorem Zn (z:PE X e te):PS X (.Return (some e) pos) (tRet te):=by
 intro pins s σ H D I h
 exact wpAny_Return_some (Zw (z pins s σ H _ I h) fun v s1 ⟨x,H1,B,r1,J⟩=>⟨x,σ,H1,B,r1,J⟩)
def tIfS (c:TT)(t u:TS):TS:=fun D σ H=>c σ H fun b H1=>if b=true then t D σ H1 else u D σ H1
theorem Yi (J:PT X c tc)(Y:PSs X a t)(Z:PSs X b u):PS X (.If c a b pos) (tIfS tc t u):=by
 intro pins s σ H D I h
 refine wpAny_If (Zw (J pins s σ H _ I h) fun d s1 W=>?_)
 obtain ⟨H1,z,B⟩:=W
 cases d with
 | true=>exact Y pins s1 σ H1 D z B
 | false=>exact Z pins s1 σ H1 D z B
end
abbrev TG:=V->St->Hp->(St->Hp->Prop)->Prop
abbrev TGs:=List V->St->Hp->(St->Hp->Prop)->Prop
def PG (X:Cx)(target:Expr)(t:TG):Prop :=
 ∀ (pins:List (Addr×Obj)) (s:Qf) (σ:St) (H:Hp) (v:V) (u:Qb) (Q:St->Hp->Prop),Inv X pins σ H s->RelV v u->t v σ H Q ->
  Qp (Qt X.prog X.w) X.A (Of target X.env u) (fun _ s'=>∃ σ' H',Inv X pins σ' H' s'/\Q σ' H') X.xe s
def PGs (X:Cx)(ts:List Expr)(t:TGs):Prop :=
 ∀ (pins:List (Addr×Obj)) (s:Qf) (σ:St) (H:Hp) (vs:List V) (us:List Qb) (Q:St->Hp->Prop),Inv X pins σ H s->Vals vs us->t vs σ H Q ->
  Qp (Qt X.prog X.w) X.A (PZ ((TN ts X.env).map (·.2)) us) (fun _ s'=>∃ σ' H',Inv X pins σ' H' s'/\Q σ' H') X.xe s
abbrev ZjU:=V->V->V->Hp->(Hp->Prop)->Prop
def PSet (X:Cx)(t:ZjU):Prop :=
 ∀ (pins:List (Addr×Obj)) (s:Qf) (σ:St) (H:Hp) (o i v:V) (ov iv u:Qb) (Q:Hp->Prop),Inv X pins σ H s->RelV o ov->RelV i iv->RelV v u->t o i v H Q ->
  Qp (Qt X.prog X.w) X.A (setItem ov iv u) (fun _ s'=>∃ H',Inv X pins σ H' s'/\Q H') X.xe s
abbrev TIp:=V->V->Hp->VK->Prop
def PIp (X:Cx)(op:Operator)(t:TIp):Prop :=
 ∀ (pins:List (Addr×Obj)) (s:Qf) (σ:St) (H:Hp) (x y:V) (v u:Qb) (Q:VK),Inv X pins σ H s->RelV x v->RelV y u->t x y H Q ->
  Qp (Qt X.prog X.w) X.A (inplaceOp op v u) (EP X pins σ Q) X.xe s
section
variable {X:Cx}{pos:Pos}
def Vt (i:Nat):TG:=fun v σ H Q=>Q (σ.set i (some v)) H
theorem ZI {i:Nat}(B:X.N.Nodup)(hi:X.N[i]?=some x)(J:Loc X.env.scope x)(D:X.fn x=true\/X.env.scope.names.lookup x=some .local:=by first | exact .inl rfl | exact .inr rfl | assumption):PG X (.Name x pos) (Vt i):=by
 intro pins s σ H v u Q I r h
 exact Nw (XJ I B hi J r (fun s' z=>⟨_,H,z,h⟩) D)
def gNil:TGs:=fun vs σ H Q=>vs=[]/\Q σ H
inductive Zgg (t:TG)(u:TGs)(vs:List V)(σ:St)(H:Hp)(Q:St->Hp->Prop):Prop
 | mk (v r:_):vs=v::r->(t v σ H fun σ' H'=>u r σ' H' Q)->Zgg t u vs σ H Q
def Zhb (t:TG)(u:TGs):TGs:=fun vs σ H Q=>Zgg t u vs σ H Q
theorem XS:PGs X [] gNil:=by
 intro pins s σ H vs us Q I r h
 obtain ⟨e,h⟩:=h
 subst e
 cases r
 exact Sn ⟨σ,H,I,h⟩
theorem Yb (h1:PG X e t)(h2:PGs X es u)(W:(TN (e::es) X.env).map (·.2)=Of e X.env::(TN es X.env).map (·.2):=by rfl):PGs X (e::es) (Zhb t u):=by
 intro pins s σ H vs us Q I r h
 obtain ⟨v,Y,e1,h⟩:=h
 subst e1
 cases r with
 | cons r rr =>
  rw [W]
  refine GP (Zw (h1 pins s σ H _ _ _ I r h) fun _ s1 J=>?_)
  obtain ⟨z,H1,B,D⟩:=J
  exact h2 pins s1 z H1 _ _ Q B rr D
inductive Ziv (K:Qa)(n:Nat)(t:TGs)(v:V)(σ:St)(H:Hp)(Q:St->Hp->Prop):Prop
 | mk (a xs:_):v=.ref a->SqT K H a xs->xs.length=n->t xs σ H Q->Ziv K n t v σ H Q
def gTup (K:Qa)(n:Nat)(t:TGs):TG:=fun v σ H Q=>Ziv K n t v σ H Q
theorem Ws {k:Nat}{n:Nat}(Y:X.calm=true)(h:PGs X es t)(Z:(TN es X.env).length=n:=by rfl)(z:(TN es X.env).findIdx? (·.1)=none:=by rfl):PG X (.Tuple es k pos) (gTup X.K n t):=by
 intro pins s σ H v u Q I r B
 obtain ⟨a,xs,e1,hq,W,B⟩:=B
 subst e1
 cases r
 obtain ⟨its,D,ht,hz⟩:=I.tuple hq
 refine assign_Tuple_tuple (I.ok.hd Y) ht (by simp [Z,<- W,D.length]) z fun h' hx=>?_
 have J:Inv X pins σ H { s with heap:=h' }:=I.kept (t':=s.toks) fun b o e=>hx b o (Qn (Qj e)) e
 exact h pins _ σ H xs _ Q J (by simpa using D) B
def gSub (to ti:TE)(t:ZjU):TG:=fun v σ H Q=>to σ H fun o H1=>ti σ H1 fun i H2=>t o i v H2 fun H3=>Q σ H3
theorem Zci (ho:PE X o to)(hi:PE X i J)(hs:PSet X t)(ha:∀ v,Of (.Subscript o i pos) X.env v=(do
  let z <- Ph [v] (eval o X.env)
  let D <- Ph [v,z] (eval i X.env)
  Ro pos
  Ph [v,z,D] (setItem z D v)
  release [v,z,D] []):=by intro _;rfl):PG X (.Subscript o i pos) (gSub to J t):=by
 intro pins s σ H v u Q I r h
 rw [ha]
 refine Qd (QX (Zw (ho pins s σ H _ I h) fun z s1 B=>?_))
 obtain ⟨x,H1,W,r1,q1⟩:=B
 refine Qd (QX (Zw (hi pins s1 σ H1 _ W q1) fun D s2 B=>?_))
 obtain ⟨y,H2,Z,r2,q2⟩:=B
 refine Qd (JC (Qd (QX (Zw (hs pins s2 σ H2 x y v z D u _ Z r1 r2 r q2) fun _ s3 B=>?_))))
 obtain ⟨H3,I3,Y⟩:=B
 exact wpAny_release ⟨σ,H3,I3,Y⟩
def ZhV (te:TE)(g:TG):TS:=fun D σ H=>te σ H fun x H1=>g x σ H1 D.nx
theorem XH (B:PE X e te)(z:PG X tg g)(hs:OH [tg] e pos.line X.env=pure false:=by rfl)(Z:OI [tg] e X.env=pure none:=by rfl)(h1:(TN [tg] X.env).map (·.2)=[Of tg X.env]:=by rfl):PS X (.Assign [tg] e pos) (ZhV te g):=by
 intro pins s σ H D I h
 refine wpAny_Assign_stores (Zw (B pins s σ H _ I h) fun v s1 Y=>?_) hs Z
 obtain ⟨x,H1,J,r1,W⟩:=Y
 rw [h1]
 exact Zw (z pins s1 σ H1 x v _ J r1 W) fun _ s2 q=>q
theorem Zx {i:Nat}(Z:X.N.Nodup)(hi:X.N[i]?=some x)(hx:Loc X.env.scope x)(z:PE X e te)(hs:SX e (some (.Name x pos')) pos.line X.env=pure false:=by rfl)(hf:X.fn x=true\/X.env.scope.names.lookup x=some .local:=by first | exact .inl rfl | exact .inr rfl | assumption):
 PS X (.Assign [.Name x pos'] e pos) (ZhV te (Vt i)):=by
 intro pins s σ H D I h
 refine wpAny_Assign_Name (Zw (z pins s σ H _ I h) fun v s1 Y=>?_) hs
 obtain ⟨y,H1,B,r1,W⟩:=Y
 exact XJ B Z hi hx r1 (fun s2 J=>⟨_,H1,J,W⟩) hf
inductive ZjJ (i j:Nat)(D:YF)(σ:St)(vs:List V)(H1:Hp):Prop
 | mk (v w:_):vs=[v,w]->D.nx ((σ.set i (some v)).set j (some w)) H1->ZjJ i j D σ vs H1
def tPar (i j:Nat)(ta:TA):TS:=fun D σ H=>ta σ H fun vs H1=>ZjJ i j D σ vs H1
theorem Zck {i j:Nat}{kt k2 pt2}(hc:X.calm=true)(hN:X.N.Nodup)(hi:X.N[i]?=some x)(hj:X.N[j]?=some y)(W:i≠j)(hx:X.env.scope.names.lookup x=some .local)(hy:X.env.scope.names.lookup y=some .local)(ha:PA X [a,b] ta)(hw:OI [.Tuple [.Name x px,.Name y J] kt pt] (.Tuple [a,b] k2 pt2) X.env=pure (some [x,y]))(hs:OH [.Tuple [.Name x px,.Name y J] kt pt] (.Tuple [a,b] k2 pt2) pos.line X.env=pure false:=by rfl):
 PS X (.Assign [.Tuple [.Name x px,.Name y J] kt pt] (.Tuple [a,b] k2 pt2) pos) (tPar i j ta):=by
 intro pins s σ H D I h
 rw [MF]
 refine Qd (JC ?_)
 rw [hs]
 refine Qd (Qh ?_)
 rw [if_neg (by decide)]
 refine Qd (Tuple_ (Zw (ha _ pins s σ H _ I h) fun us s1 zz=>?_))
 obtain ⟨vs,H1,I1,r1,Y⟩:=zz
 obtain ⟨v,w,e1,Y⟩:=Y
 subst e1
 obtain ⟨B,z,rfl,rv,Z⟩:∃ B z,us=[B,z]/\RelV v B/\RelV w z:=by
  cases r1 with
  | cons p q =>
   cases q with
   | cons p' q' =>
    cases q'
    exact ⟨_,_,rfl,p,p'⟩
 refine Gg ?_ (by show 2<=Qi;decide)
 have I2:Inv X pins σ H1 { s1 with heap:=s1.heap.push { cls:=.type "tuple",data:=.seq [B,z].toArray } }:=I1.kept (t':=s1.toks) fun b o e=>Qc _ e
 rw [hw]
 refine Qd (Qh ?_)
 show Qp (Qt X.prog X.w) X.A (do rule "assign.swapped-stores";let items <- unpackItems (.ref s1.heap.objs.size) 2 none;PZ [fun v=>Pi X.env y v,fun v=>Pi X.env x v] items.reverse;pure Me) _ _ _
 refine Qd (PR (Qd (Nx (items:=#[B,z]) (I.ok.hd hc) (SY s1.heap _) fun h' hx'=>?_)))
 have I3:=I2.kept (h':=h') (t':=s1.toks) fun b o e=>hx' b o (Qn (Qj e)) e
 show Qp _ _ (PZ [fun v=>Pi X.env y v,fun v=>Pi X.env x v] [z,B] >>= fun _=>pure Me) _ _ _
 refine Qd (GP (Pj (XJ I3 hN hj (.inl hy) Z (fun s2 I4=>?_) (.inr hy))))
 refine GP (Pj (XJ I4 hN hi (.inl hx) rv (fun s3 I5=>Sn (Qh ?_)) (.inr hx)))
 rw [SG _ _ (Jv W)] at I5
 exact ⟨_,H1,I5,Y⟩
inductive ZjH (i:Nat)(te:TE)(ti:TIp)(D:YF)(σ:St)(H:Hp):Prop
 | mk (x:_):σ[i]?=some (some x)->(te σ H fun y H1=>ti x y H1 fun z H2=>D.nx (σ.set i (some z)) H2)->ZjH i te ti D σ H
def tAug (i:Nat)(te:TE)(ti:TIp):TS:=fun D σ H=>ZjH i te ti D σ H
theorem ZoN {i:Nat}(hN:X.N.Nodup)(hi:X.N[i]?=some x)(hx:Loc X.env.scope x)(he:PE X e te)(ho:PIp X Z ti)(hf:X.fn x=true\/X.env.scope.names.lookup x=some .local:=by first | exact .inl rfl | exact .inr rfl | assumption):
 PS X (.AugAssign (.Name x pos') Z e pos) (tAug i te ti):=by
 intro pins s σ H D I h
 obtain ⟨v,e1,h⟩:=h
 obtain ⟨m,hn,hl⟩:=I.loc
 have Y:Vis X.env.scope x:=by rcases hx with k | k;exact .inl k;exact .inr (.inl k)
 obtain ⟨u,r,l⟩:=hl i x v hi e1 Y
 refine wpAny_AugAssign_Name ?_
 have go:Qp (Qt X.prog X.w) X.A (eval e X.env) (fun w W=>Qp (Qt X.prog X.w) X.A (inplaceOp Z u w) (fun r J=>Qp (Qt X.prog X.w) X.A (storeName X.env x r) (fun _=>SP X pins D .next) X.xe J) X.xe W) X.xe s:=by
  refine Zw (he pins s σ H _ I h) fun w s1 zz=>?_
  obtain ⟨y,H1,I1,r1,q1⟩:=zz
  refine Zw (ho pins s1 σ H1 v y u w _ I1 r r1 q1) fun z s2 zz=>?_
  obtain ⟨zv,H2,I2,r2,q2⟩:=zz
  exact XJ I2 hN hi hx r2 (fun s3 I3=>⟨_,H2,I3,q2⟩) hf
 rcases l with ⟨hk,hm⟩ | ⟨hk,c,hc,B⟩
 ·exact Td I.ok.kind hk hn hm go
 ·rcases hk with hk | hk
  ·exact Oy I.ok.kind hk hc B go
  ·rcases hx with k | k
   ·have:X.env.scope.names.lookup x=some .free:=hk
    rw [k] at this;cases this
   ·have:X.env.scope.names.lookup x=some .free:=hk
    rw [k] at this;cases this
def ipI (f:Int->Int->Int):TIp:=fun x y H Q=>∃ i j,x=.int i/\y=.int j/\Q (.int (f i j)) H
theorem Zoh:PIp X .Add (ipI fun i j=>i+j):=by
 intro pins s σ H x y v u Q I r1 B h
 obtain ⟨i,j,e1,z,q⟩:=h
 subst e1;subst z
 obtain ⟨t,rfl⟩:=r1
 obtain ⟨t',rfl⟩:=B
 exact iadd_int ⟨.int _,H,I.tok _,⟨_,rfl⟩,q⟩
end
section
variable {X:Cx}{pos:Pos}
def Zpj (c:TT)(tb:TS):TS:=fun D σ H=>∃ W:Nat->St->Hp->Prop,(∃ m,W m σ H)/\∀ m σ H,W m σ H ->
 c σ H fun b H1=>if b=true then ∃ N:St->Hp->Prop,(∀ σ' H',N σ' H'->∃ m',m' < m/\W m' σ' H')/\tb { D with nx:=N,ct:=N,bk:=D.nx } σ H1 else D.nx σ H1
theorem VB (hp:PassesOwn (Qt X.prog X.w) X.A X.env X.xe)(hc:PT X c tc)(hb:PSs X body tb):PS X (.While c body [] pos) (Zpj tc tb):=by
 intro pins s σ H D I h
 obtain ⟨W,⟨m0,w0⟩,Y⟩:=h
 refine wpAny_While (codeAny_whileLoop (fun n s'=>∃ Z H',Inv X pins Z H' s'/\W n Z H') ?_ m0 ⟨σ,H,I,w0⟩)
 rintro n s1 ⟨B,H1,I1,w1⟩
 refine GT hp (Zw (hc pins s1 B H1 _ I1 (Y n B H1 w1)) fun b s2 zz=>?_)
 obtain ⟨H2,I2,q2⟩:=zz
 cases b with
 | true =>
  obtain ⟨N,hN,q2⟩:=q2
  rw [if_pos rfl]
  refine GT hp (Zw (hb pins s2 B H2 _ I2 q2) fun f s3 q3=>?_)
  cases f with
  | next =>
   obtain ⟨z,J,I3,n3⟩:=q3
   obtain ⟨m',hm,w3⟩:=hN z J n3
   exact ⟨m',hm,z,J,I3,w3⟩
  | cont =>
   obtain ⟨z,J,I3,n3⟩:=q3
   obtain ⟨m',hm,w3⟩:=hN z J n3
   exact ⟨m',hm,z,J,I3,w3⟩
  | brk=>exact q3
  | ret v=>exact q3
 | false =>
  rw [if_neg Qx]
  exact To ⟨B,H2,I2,q2⟩
end
structure It where
 go:Nat->Hp->Prop
 yld:Nat->Hp->V->Hp->Prop
 stop:Nat->Hp->Prop
def Wd (X:Cx)(pins:List (Addr×Obj))(H:Hp)(b:Addr):Prop :=
 H b=none/\b≠X.env.locals/\b ∉ X.fs/\(b∈X.ex\/X.s₀.heap.objs.size<=b)/\(∀ x c,X.env.cells.lookup x=some c->c≠b)/\∀ p∈X.pn++pins,p.1≠b
theorem Inv.fpOk (I:Inv X pins σ H s)(B:s.heap.objs.size<=b)(D:H' b=none):Wd X pins H' b:=by
 refine ⟨D,GI (QA I.lt B),I.nofs B,.inr (Qr I.sz B),fun x c e z=>?_,fun p hp z=>?_⟩
 ·obtain ⟨v,q⟩:=I.cell x c e
  exact absurd (QA q.lt (by rw [z];exact B)) (Gz _)
 ·exact absurd (QA (Qj (I.pin p hp).1) (by rw [z];exact B)) (Gz _)
structure VT (P:Ql)(w:Qs)(K:Qa)(tg:Expr)(J:It)(fp:List Addr)(it:Addr)(tn:Nat->Heap->Prop):Prop where
 mem:it∈fp
 obj:∀ i h,tn i h->∀ b∈fp,∃ o,h.get? b=some o/\∀ v,o.data≠.cell v
 keep:∀ i h h',tn i h->(∀ b∈fp,∀ o,h.get? b=some o->h'.get? b=some o)->tn i h'
 item:∀ (X:Cx),X.prog=P->X.w=w->X.K=K->X.calm=true->∀ (i:Nat) (pins:List (Addr×Obj)) (s:Qf) (σ:St) (H:Hp) (E:Qb->Qf->Prop),Inv X pins σ H s->(∀ b∈fp,Wd X pins H b)->tn i s.heap->J.go i H ->
  Qp (Qt P w) X.A (SH (.ref it)) (fun r s1=>∃ u,r=some u /\
   Qp (Qt P w) X.A (Tp tg (.ref it) u) (fun _ s2=>∃ x H',Inv X pins σ H' s2/\RelV x u/\J.yld i H x H'/\tn (i+1) s2.heap/\∀ b∈fp,H' b=none) E s1) E s
 done:∀ (X:Cx),X.prog=P->X.w=w->X.K=K->X.calm=true->∀ (i:Nat) (pins:List (Addr×Obj)) (s:Qf) (σ:St) (H:Hp) (E:Qb->Qf->Prop),Inv X pins σ H s->(∀ b∈fp,Wd X pins H b)->tn i s.heap->J.stop i H ->
  Qp (Qt P w) X.A (SH (.ref it)) (fun r s1=>r=none/\Inv X pins σ H s1) E s
 self:∀ (A:QL) (i:Nat) (s:Qf) (Q:Qb->Qf->Prop) (E:Qb->Qf->Prop),tn i s.heap->Q (.ref it) s->Qp (Qt P w) A (Mf (.ref it)) Q E s
abbrev TI:=St->Hp->(It->Hp->Prop)->Prop
def PIE (X:Cx)(pins:List (Addr×Obj))(σ:St)(tg:Expr)(R:It->Hp->Prop)(itv:Qb)(s2:Qf):Prop :=
 ∃ (it:Addr) (fp:List Addr) (tn:Nat->Heap->Prop) (J:It) (H':Hp),itv=.ref it/\Inv X pins σ H' s2/\VT X.prog X.w X.K tg J fp it tn/\tn 0 s2.heap/\(∀ b∈fp,Wd X pins H' b)/\R J H'
def PI (X:Cx)(tg iter:Expr)(wi:TI):Prop :=
 ∀ (pins:List (Addr×Obj)) (s:Qf) (σ:St) (H:Hp) (R:It->Hp->Prop),Inv X pins σ H s->wi σ H R ->
  Qp (Qt X.prog X.w) X.A (eval iter X.env) (fun v s1=>Qp (Qt X.prog X.w) X.A (Mf v) (PIE X pins σ tg R) X.xe s1) X.xe s
theorem Zhd {s:Qf}(Y:s.heap.get? B=some o)(D:o.cls=.type n)(W:o.data=.fields vs)(J:["enumerate","zip","dict_itemiterator","dict_reverseitemiterator","odict_iterator","itertools.zip_longest","itertools.pairwise"].contains n=false)(z:Q () s):Qp M A (Tp tg (.ref B) u) Q E s:=by
 unfold Tp
 cases tg <;> first
   | exact Qh z
   | (cases u<;>first
       | exact Qh z
       | (refine Qd (wpAny_load Y ?_)
          rw [D,W]
          show Qp M A (if (["enumerate","zip","dict_itemiterator","dict_reverseitemiterator","odict_iterator","itertools.zip_longest","itertools.pairwise"].contains n&&vs[0]? == some (Gb _))=true then _ else _) Q E s
          rw [if_neg (by intro h;rw [J,Bool.false_and] at h;cases h)]
          exact Qh z))
def Itl (K:Qa)(a:Addr):It :=
 ⟨fun i H=>∃ xs x,SqL K H a xs/\xs[i]?=some x,fun i H x H'=>H'=H/\∀ xs,SqL K H a xs->xs[i]?=some x,fun i H=>∃ xs,SqL K H a xs/\xs.length<=i⟩
def Itt (K:Qa)(a:Addr):It :=
 ⟨fun i H=>∃ xs x,SqT K H a xs/\xs[i]?=some x,fun i H x H'=>H'=H/\∀ xs,SqT K H a xs->xs[i]?=some x,fun i H=>∃ xs,SqT K H a xs/\xs.length<=i⟩
def Itr (lo:Int)(n:Nat):It:=⟨fun i _=>i < n,fun i H x H'=>H'=H/\x=.int (lo+i),fun i _=>n<=i⟩
theorem ZjN {P:Ql}{w:Qs}{K:Qa}{tg:Expr}(a D:Addr):VT P w K tg (Itl K a) [D] D (fun i h=>h.IsListIter D a i) where
 mem:=by simp
 obj:=fun i h st b B=>by
  have e:b=D:=by simpa using B
  subst e
  obtain ⟨o,e,c,d⟩:=st
  exact ⟨o,e,fun v z=>by rw [d] at z;cases z⟩
 keep:=fun i h h' st k=>st.at fun o e=>k D (by simp) o e
 item:=by
  intro X hP hw hK hc i pins s σ H E I W st hg
  subst hP hw hK
  obtain ⟨xs,x,Y,hx⟩:=hg
  obtain ⟨its,rv,p,hz⟩:=I.list Y
  obtain ⟨u,hu,ru⟩:=rv.get hx
  obtain ⟨f0,Z,f2,f3,f4,f5⟩:=W D (by simp)
  refine wpAny_pyNext_list_item st p.isList (x:=u) (by simpa using hu) fun h' J sb=>?_
  have I1:Inv X pins σ H { s with heap:=h' }:=I.turned (t':=s.toks) (fun b o B e=>(sb.2 b B).trans e) f0 Z f3 f4 f5
  obtain ⟨o,e,c,d⟩:=id J
  exact ⟨u,rfl,Zhd (s:={ s with heap:=h' }) e c d (by decide) ⟨x,H,I1,ru,⟨rfl,fun ys hy=>by rw [I.list_inj hy Y];exact hx⟩,J,fun b B=>(W b B).1⟩⟩
 done:=by
  intro X hP hw hK hc i pins s σ H E I W st hg
  subst hP hw hK
  obtain ⟨xs,Y,hx⟩:=hg
  obtain ⟨its,rv,p,hz⟩:=I.list Y
  obtain ⟨f0,Z,f2,f3,f4,f5⟩:=W D (by simp)
  have hl:=rv.length
  exact wpAny_pyNext_list_end (I.ok.hd hc) st p.isList (by simp;omega) fun h' eb=>⟨rfl,I.turned (t':=s.toks) (fun b o B e=>eb b o B e) f0 Z f3 f4 f5⟩
 self:=fun _ _ _ _ _ st h=>wpAny_pyIter_listiter st h
theorem Zia {P:Ql}{w:Qs}{K:Qa}{tg:Expr}(a J:Addr):VT P w K tg (Itt K a) [J] J (fun i h=>h.IsTupleIter J a i) where
 mem:=by simp
 obj:=fun i h st b D=>by
  have e:b=J:=by simpa using D
  subst e
  obtain ⟨o,e,c,d⟩:=st
  exact ⟨o,e,fun v z=>by rw [d] at z;cases z⟩
 keep:=fun i h h' st k=>st.at fun o e=>k J (by simp) o e
 item:=by
  intro X hP hw hK hc i pins s σ H E I Y st hg
  subst hP hw hK
  obtain ⟨xs,x,Z,hx⟩:=hg
  obtain ⟨B,rv,p,hz⟩:=I.tuple Z
  obtain ⟨u,hu,ru⟩:=rv.get hx
  obtain ⟨f0,f1,f2,f3,f4,f5⟩:=Y J (by simp)
  refine wpAny_pyNext_tuple_item st (show s.heap.IsTuple a B.toArray from p) (x:=u) (by simpa using hu) fun h' W sb=>?_
  have I1:Inv X pins σ H { s with heap:=h' }:=I.turned (t':=s.toks) (fun b o D e=>(sb.2 b D).trans e) f0 f1 f3 f4 f5
  obtain ⟨o,e,c,d⟩:=id W
  exact ⟨u,rfl,Zhd (s:={ s with heap:=h' }) e c d (by decide) ⟨x,H,I1,ru,⟨rfl,fun ys hy=>by rw [I.tuple_inj hy Z];exact hx⟩,W,fun b D=>(Y b D).1⟩⟩
 done:=by
  intro X hP hw hK hc i pins s σ H E I Y st hg
  subst hP hw hK
  obtain ⟨xs,Z,hx⟩:=hg
  obtain ⟨B,rv,p,hz⟩:=I.tuple Z
  obtain ⟨f0,f1,f2,f3,f4,f5⟩:=Y J (by simp)
  have hl:=rv.length
  exact wpAny_pyNext_tuple_end (I.ok.hd hc) st (show s.heap.IsTuple a B.toArray from p) (by simp;omega) fun h' eb=>⟨rfl,I.turned (t':=s.toks) (fun b o D e=>eb b o D e) f0 f1 f3 f4 f5⟩
 self:=fun _ _ _ _ _ st h=>wpAny_pyIter_tupleiter st h
theorem ZhZ {P:Ql}{w:Qs}{K:Qa}{tg:Expr}(B:Addr)(lo:Int)(n:Nat):VT P w K tg (Itr lo n) [B] B (fun i h=>IsRangeIter h B (lo+(i:Nat) * 1) ((n:Int) - (i:Nat)) 1) where
 mem:=by simp
 obj := fun i h st b D=>by
  have e:b=B:=by simpa using D
  subst e
  exact ⟨_,st,fun v z=>by
   have z':Data.fields _=Data.cell v:=z
   cases z'⟩
 keep:=fun i h h' st k=>k B (by simp) _ st
 item:=by
  intro X hP hw hK hc i pins s σ H E I Y st hg
  subst hP hw hK
  obtain ⟨f0,Z,f2,f3,f4,f5⟩:=Y B (by simp)
  have W:=Walks.range (prog:=X.prog) (w:=X.w) (I.ok.hd hc) B lo 1 n
  refine W.item i s _ _ hg st fun v h' tk hv J kk=>?_
  obtain ⟨t,rfl⟩:=hv
  have I1:Inv X pins σ H { s with heap:=h',toks:=tk }:=I.turned (fun b o D e=>kk b o (by simpa using D) e) f0 Z f3 f4 f5
  refine ⟨_,rfl,Zhd (s:={ s with heap:=h',toks:=tk }) (n:="range_iterator") J rfl rfl (by decide) ⟨.int (lo+i),H,I1,⟨t,?_⟩,⟨rfl,rfl⟩,J,fun b D=>(Y b D).1⟩⟩
  rw [Int.mul_one]
 done:=by
  intro X hP hw hK hc i pins s σ H E I Y st hg
  subst hP hw hK
  obtain ⟨f0,Z,f2,f3,f4,f5⟩:=Y B (by simp)
  exact wpAny_pyNext_range_end (I.ok.hd hc) st (by have:n<=i:=hg;omega) fun h' eb=>⟨rfl,I.turned (t':=s.toks) (fun b o D e=>eb b o D e) f0 Z f3 f4 f5⟩
 self:=fun _ _ _ _ _ st h=>wpAny_pyIter_rangeiter st h
section
variable {X:Cx}{tg:Expr}
inductive Zgi (K:Qa)(R:It->Hp->Prop)(x:V)(H1:Hp):Prop
 | mk (a:_):x=.ref a->(∃ xs,SqL K H1 a xs)->R (Itl K a) H1->Zgi K R x H1
def Zpz (K:Qa)(tl:TE):TI:=fun σ H R=>tl σ H fun x H1=>Zgi K R x H1
inductive Ziy (K:Qa)(R:It->Hp->Prop)(x:V)(H1:Hp):Prop
 | mk (a:_):x=.ref a->(∃ xs,SqT K H1 a xs)->R (Itt K a) H1->Ziy K R x H1
def iTup (K:Qa)(tl:TE):TI:=fun σ H R=>tl σ H fun x H1=>Ziy K R x H1
theorem XT (B:PE X l tl):PI X tg l (Zpz X.K tl):=by
 intro pins s σ H R I h
 refine Zw (B pins s σ H _ I h) fun v s1 J=>?_
 obtain ⟨x,H1,z,r1,D⟩:=J
 obtain ⟨a,e,⟨xs,Y⟩,q⟩:=D
 subst e
 cases r1
 obtain ⟨W,rv,p,hz⟩:=z.list Y
 refine Pk p.isList ?_
 refine ⟨s1.heap.objs.size,[s1.heap.objs.size],_,_,H1,rfl,z.kept (t':=s1.toks) fun b o e=>Qc _ e,ZjN a _,⟨_,Qk _ rfl,rfl,rfl⟩,fun b Z=>?_,q⟩
 have e:b=s1.heap.objs.size:=by simpa using Z
 subst e
 exact z.fpOk (Qe _) (z.hok.fresh (Qe _))
theorem Zfi (D:PE X l tl):PI X tg l (iTup X.K tl):=by
 intro pins s σ H R I h
 refine Zw (D pins s σ H _ I h) fun v s1 W=>?_
 obtain ⟨x,H1,z,r1,J⟩:=W
 obtain ⟨a,e,⟨xs,Y⟩,q⟩:=J
 subst e
 cases r1
 obtain ⟨B,rv,p,hz⟩:=z.tuple Y
 refine OS (show s1.heap.IsTuple a B.toArray from p) ?_
 refine ⟨s1.heap.objs.size,[s1.heap.objs.size],_,_,H1,rfl,z.kept (t':=s1.toks) fun b o e=>Qc _ e,Zia a _,⟨_,Qk _ rfl,rfl,rfl⟩,fun b Z=>?_,q⟩
 have e:b=s1.heap.objs.size:=by simpa using Z
 subst e
 exact z.fpOk (Qe _) (z.hok.fresh (Qe _))
theorem Zll {pins:List (Addr×Obj)}{σ:St}{H:Hp}{s:Qf}{R:It->Hp->Prop}{E:Qb->Qf->Prop}{lo hi:Int}{t u v:Tok}{tk:Nat}(I:Inv X pins σ H s)(h1:-(2 ^ 62)<=lo)(h2:lo < 2 ^ 62)(J:-(2 ^ 62)<=hi)(B:hi < 2 ^ 62)
 (q:R (Itr lo (hi - lo).toNat) H):Qp (Qt X.prog X.w) X.A (Mf (.ref s.heap.objs.size)) (PIE X pins σ tg R) E { s with heap:=s.heap.push { cls:=.type "range",data:=.fields #[.int lo t,.int hi u,.int 1 v] },toks:=tk }:=by
 refine wpAny_pyIter_range (IsRange.new ..) (small_one h1 h2 J B) ?_
 have z:Inv X pins σ H { s with heap:=s.heap.push { cls:=.type "range",data:=.fields #[.int lo t,.int hi u,.int 1 v] },toks:=tk }:=I.kept fun b o e=>Qc _ e
 refine ⟨(s.heap.push { cls:=.type "range",data:=.fields #[.int lo t,.int hi u,.int 1 v] }).objs.size,[(s.heap.push { cls:=.type "range",data:=.fields #[.int lo t,.int hi u,.int 1 v] }).objs.size],_,_,H,rfl,
  z.kept (t':=tk) fun b o e=>Qc _ e,ZhZ _ lo (hi - lo).toNat,?_,fun b W=>?_,q⟩
 ·have e1:lo+((0:Nat):Int) * 1=lo:=by simp
  have D:(((hi - lo).toNat:Nat):Int) - ((0:Nat):Int)=Builtin.Range.rangeSize lo hi 1:=by rw [rangeSize_one];split<;>omega
  show IsRangeIter _ _ (lo+((0:Nat):Int) * 1) ((((hi - lo).toNat:Nat):Int) - ((0:Nat):Int)) 1
  rw [e1,D]
  exact Qk _ rfl
 ·have e:b=(s.heap.push { cls:=.type "range",data:=.fields #[.int lo t,.int hi u,.int 1 v] }).objs.size:=by simpa using W
  subst e
  exact z.fpOk (Qe _) (z.hok.fresh (Qe _))
inductive Zgj (R:It->Hp->Prop)(vs:List V)(H1:Hp):Prop
 | mk (j:Int):vs=[.int j]->-(2 ^ 62)<=j->j < 2 ^ 62->R (Itr 0 j.toNat) H1->Zgj R vs H1
def ZpA (ta:TA):TI:=fun σ H R=>ta σ H fun vs H1=>Zgj R vs H1
theorem Xj (B:Gl X "range")(Z:X.mg "range"=none)(W:PA X [a] ta)(Y:QH [a] X.env=[(false,eval a X.env)]:=by rfl):PI X tg (.Call (.Name "range" p) [a] [] pos) (ZpA ta):=by
 intro pins s σ H R I h
 refine Call_ (WT I B Z boot_range (GJ (Zw (W pos pins s σ H _ I h) fun us s1 J=>?_) Y rfl))
 obtain ⟨vs,H1,D,r1,z⟩:=J
 obtain ⟨j,e,z,q2,q⟩:=z
 subst e
 cases r1 with
 | cons r rr =>
  cases rr
  obtain ⟨t,rfl⟩:=r
  exact call_range_1 (Zll D (by omega) (by omega) z q2 (by simpa using q))
def tFor (wi:TI)(g:TG)(tb:TS):TS:=fun D σ H=>wi σ H fun J H1=>∃ W:Nat->Nat->St->Hp->Prop,(∃ m,W 0 m σ H1)/\∀ i m σ H,W i m σ H ->
 (J.stop i H/\D.nx σ H)\/(J.go i H/\∃ N:St->Hp->Prop,(∀ σ' H',N σ' H'->∃ m',m' < m/\W (i+1) m' σ' H')/\∀ x H',J.yld i H x H'->g x σ H' fun σ2 H2=>tb { D with nx:=N,ct:=N,bk:=D.nx } σ2 H2)
def Zcj (fp:List Addr)(h:Heap):List (Addr×Obj):=fp.filterMap fun b=>(h.get? b).map fun o=>(b,o)
theorem XR (z:b∈fp)(e:h.get? b=some o):(b,o)∈Zcj fp h:=List.mem_filterMap.mpr ⟨b,z,by rw [e];rfl⟩
theorem ZiT (hp:p∈Zcj fp h):p.1∈fp/\h.get? p.1=some p.2:=by
 obtain ⟨b,B,e⟩:=OT.mp hp
 cases q:h.get? b with
 | none=>rw [q] at e;cases e
 | some o =>
  rw [q] at e
  have z:(b,o)=p:=Qo e
  subst z
  exact ⟨B,q⟩
theorem Inv.pinned (I:Inv X pins σ H s)(Z:∀ b∈fp,Wd X pins H b)(ho:∀ b∈fp,∃ o,s.heap.get? b=some o/\∀ v,o.data≠.cell v):Inv X (pins++Zcj fp s.heap) σ H s :=
 I.pins_of fun p hp=>(mem_append.mp hp).elim (fun z=>I.pin p (mem_append_right _ z)) fun z=>by
  obtain ⟨D,e⟩:=ZiT z
  obtain ⟨Y,J,W,_⟩:=Z p.1 D
  obtain ⟨o,B,d⟩:=ho p.1 D
  rw [e] at B;cases B
  exact ⟨e,Y,J,W,d⟩
theorem Inv.unpinned {pins pl:List (Addr×Obj)}(I:Inv X (pins++pl) σ H s):Inv X pins σ H s:=I.pins_of fun p hp=>I.pin p (mem_append_right _ (Tb _ hp))
theorem Wt (hp:PassesOwn (Qt X.prog X.w) X.A X.env X.xe)(hc:X.calm=true)(hi:PI X tg iter wi)(hg:PG X tg g)(hb:PSs X body tb)(hs:∀ x,GA iter X.env x=pure x:=by intro _;rfl):PS X (.For tg iter body [] pos) (tFor wi g tb):=by
 intro pins s σ H D I h
 refine wpAny_For (Zw (hi pins s σ H _ I h) fun v s1 h1=>Zw h1 fun itv s2 h2=>?_) hs
 obtain ⟨it,fp,tn,J,H2,e,I2,T,st2,f2,W,⟨m0,w0⟩,turn⟩:=h2
 subst e
 have Z:∀ {H':Hp},(∀ b∈fp,H' b=none)->∀ b∈fp,Wd X pins H' b:=fun hn b hb=>⟨hn b hb,(f2 b hb).2⟩
 refine codeAny_forLoop_any (fun n s'=>∃ i σ' H',Inv X pins σ' H' s'/\tn i s'.heap/\(∀ b∈fp,H' b=none)/\W i n σ' H') ?_ m0 ⟨0,σ,H2,I2,st2,fun b hb=>(f2 b hb).1,w0⟩
 rintro n s3 ⟨i,σ3,H3,I3,st3,fr3,w3⟩
 rcases turn i n σ3 H3 w3 with ⟨stop,qn⟩ | ⟨go,N,hN,step⟩
 ·refine GT hp (Zw (T.done X rfl rfl rfl hc i pins s3 σ3 H3 X.xe I3 (Z fr3) st3 stop) fun r s4 ⟨hr,I4⟩=>?_)
  subst hr
  exact To ⟨σ3,H3,I4,qn⟩
 ·refine GT hp (Zw (T.item X rfl rfl rfl hc i pins s3 σ3 H3 X.xe I3 (Z fr3) st3 go) fun r s4 zz=>?_)
  obtain ⟨u,hr,h4⟩:=zz
  subst hr
  refine GT hp (Zw h4 fun _ s5 zz=>?_)
  obtain ⟨x,H5,I5,r5,y5,st5,fr5⟩:=zz
  have I5':=I5.pinned (Z fr5) (T.obj _ _ st5)
  refine GT hp (Zw (hg _ s5 σ3 H5 x u _ I5' r5 (step x H5 y5)) fun _ s6 zz=>?_)
  obtain ⟨σ6,H6,I6,q6⟩:=zz
  refine GT hp (Zw (hb _ s6 σ6 H6 _ I6 q6) fun f s7 q7=>?_)
  have again:∀ {z:St} {Y:Hp},Inv X (pins++Zcj fp s5.heap) z Y s7->N z Y->∃ m,m < n/\∃ i σ' H',Inv X pins σ' H' s7/\tn i s7.heap/\(∀ b∈fp,H' b=none)/\W i m σ' H':=fun {z Y} B n7=>by
   obtain ⟨m',hm,w7⟩:=hN z Y n7
   refine ⟨m',hm,i+1,z,Y,B.unpinned,T.keep _ _ _ st5 fun b hb o e=>(B.pin (b,o) (mem_append_right _ (mem_append_right _ (XR hb e)))).1,fun b hb=>?_,w7⟩
   obtain ⟨o,e,d⟩:=T.obj _ _ st5 b hb
   exact (B.pin (b,o) (mem_append_right _ (mem_append_right _ (XR hb e)))).2.1
  cases f with
  | next=>obtain ⟨z,Y,B,n7⟩:=q7;exact again B n7
  | cont=>obtain ⟨z,Y,B,n7⟩:=q7;exact again B n7
  | brk=>obtain ⟨z,Y,B,q7⟩:=q7;exact ⟨z,Y,B.unpinned,q7⟩
  | ret v=>obtain ⟨x7,z,Y,B,r7,q7⟩:=q7;exact ⟨x7,z,Y,B.unpinned,r7,q7⟩
end
theorem ZeP {K:Qa}{a:Addr}{xs:List V}{g:TG}{tb:TS}{D:YF}{σ:St}{H:Hp}(z:Nat->St->Hp->Prop)(h0:z 0 σ H)(hl:∀ i σ H,i<=xs.length->z i σ H->SqL K H a xs)
 (hs:∀ i x σ H,xs[i]?=some x->z i σ H->g x σ H fun B H2=>tb { D with nx:=z (i+1),ct:=z (i+1),bk:=D.nx } B H2) (hd:∀ σ H,z xs.length σ H->D.nx σ H) :
 ∃ W:Nat->Nat->St->Hp->Prop,(∃ m,W 0 m σ H)/\∀ i m σ H,W i m σ H ->
  ((Itl K a).stop i H/\D.nx σ H)\/((Itl K a).go i H/\∃ N:St->Hp->Prop,(∀ J H',N J H'->∃ Z,Z < m/\W (i+1) Z J H')/\∀ x H',(Itl K a).yld i H x H'->g x σ H' fun B H2=>tb { D with nx:=N,ct:=N,bk:=D.nx } B H2):=by
 refine ⟨fun i m σ H=>m=xs.length - i/\i<=xs.length/\z i σ H,⟨xs.length,by simp,Qw _,h0⟩,?_⟩
 rintro i m σ H ⟨rfl,hi,p⟩
 have q:=hl i σ H hi p
 by_cases Y:i < xs.length
 ·refine .inr ⟨⟨xs,xs[i],q,by simp [Y]⟩,z (i+1),fun J H' p'=>⟨xs.length - (i+1),by omega,rfl,Y,p'⟩,fun x H' y=>?_⟩
  obtain ⟨e,y⟩:=y
  subst e
  exact hs i x σ _ (y xs q) p
 ·have e:i=xs.length:=by omega
  subst e
  exact .inl ⟨⟨xs,q,Qe _⟩,hd σ H p⟩
theorem Zmv {K:Qa}{a:Addr}{xs:List V}{g:TG}{tb:TS}{D:YF}{σ:St}{H:Hp}(z:Nat->St->Hp->Prop)(h0:z 0 σ H)(hl:∀ i σ H,i<=xs.length->z i σ H->SqT K H a xs)
 (hs:∀ i x σ H,xs[i]?=some x->z i σ H->g x σ H fun B H2=>tb { D with nx:=z (i+1),ct:=z (i+1),bk:=D.nx } B H2) (hd:∀ σ H,z xs.length σ H->D.nx σ H) :
 ∃ W:Nat->Nat->St->Hp->Prop,(∃ m,W 0 m σ H)/\∀ i m σ H,W i m σ H ->
  ((Itt K a).stop i H/\D.nx σ H)\/((Itt K a).go i H/\∃ N:St->Hp->Prop,(∀ J H',N J H'->∃ Z,Z < m/\W (i+1) Z J H')/\∀ x H',(Itt K a).yld i H x H'->g x σ H' fun B H2=>tb { D with nx:=N,ct:=N,bk:=D.nx } B H2):=by
 refine ⟨fun i m σ H=>m=xs.length - i/\i<=xs.length/\z i σ H,⟨xs.length,by simp,Qw _,h0⟩,?_⟩
 rintro i m σ H ⟨rfl,hi,p⟩
 have q:=hl i σ H hi p
 by_cases Y:i < xs.length
 ·refine .inr ⟨⟨xs,xs[i],q,by simp [Y]⟩,z (i+1),fun J H' p'=>⟨xs.length - (i+1),by omega,rfl,Y,p'⟩,fun x H' y=>?_⟩
  obtain ⟨e,y⟩:=y
  subst e
  exact hs i x σ _ (y xs q) p
 ·have e:i=xs.length:=by omega
  subst e
  exact .inl ⟨⟨xs,q,Qe _⟩,hd σ H p⟩
theorem WQ {lo:Int}{n:Nat}{g:TG}{tb:TS}{D:YF}{σ:St}{H:Hp}(J:Nat->St->Hp->Prop)(h0:J 0 σ H)
 (hs:∀ i σ H,i < n->J i σ H->g (.int (lo+i)) σ H fun B H2=>tb { D with nx:=J (i+1),ct:=J (i+1),bk:=D.nx } B H2) (hd:∀ σ H,J n σ H->D.nx σ H) :
 ∃ W:Nat->Nat->St->Hp->Prop,(∃ m,W 0 m σ H)/\∀ i m σ H,W i m σ H ->
  ((Itr lo n).stop i H/\D.nx σ H)\/((Itr lo n).go i H/\∃ N:St->Hp->Prop,(∀ Y H',N Y H'->∃ Z,Z < m/\W (i+1) Z Y H')/\∀ x H',(Itr lo n).yld i H x H'->g x σ H' fun B H2=>tb { D with nx:=N,ct:=N,bk:=D.nx } B H2):=by
 refine ⟨fun i m σ H=>m=n - i/\i<=n/\J i σ H,⟨n,by simp,Qw _,h0⟩,?_⟩
 rintro i m σ H ⟨rfl,hi,p⟩
 by_cases z:i < n
 ·refine .inr ⟨z,J (i+1),fun Y H' p'=>⟨n - (i+1),by omega,rfl,z,p'⟩,fun x H' y=>?_⟩
  obtain ⟨e,y⟩:=y
  subst e y
  exact hs i σ _ z p
 ·have e:i=n:=by omega
  subst e
  exact .inl ⟨Qe _,hd σ H p⟩
abbrev R2:=V->V->Hp->VK->Prop
def Xm (X:Cx)(f:Qb->Qb->Sem Qb)(r:R2):Prop :=
 ∀ (pins:List (Addr×Obj)) (s:Qf) (σ:St) (H:Hp) (x y:V) (v u:Qb) (Q:VK),Inv X pins σ H s->RelV x v->RelV y u->r x y H Q ->
  Qp (Qt X.prog X.w) X.A (f v u) (EP X pins σ Q) X.xe s
def UnR (X:Cx)(f:Qb->Sem Qb)(r:V->Hp->VK->Prop):Prop :=
 ∀ (pins:List (Addr×Obj)) (s:Qf) (σ:St) (H:Hp) (x:V) (v:Qb) (Q:VK),Inv X pins σ H s->RelV x v->r x H Q ->
  Qp (Qt X.prog X.w) X.A (f v) (EP X pins σ Q) X.xe s
def Yv (X:Cx)(f:Qb)(r:List V->Hp->VK->Prop):Prop :=
 ∀ (pins:List (Addr×Obj)) (s:Qf) (σ:St) (H:Hp) (xs:List V) (us:List Qb) (Q:VK),Inv X pins σ H s->Vals xs us->r xs H Q ->
  Qp (Qt X.prog X.w) X.A (call f us) (EP X pins σ Q) X.xe s
def TruR (X:Cx)(r:V->Hp->(Bool->Hp->Prop)->Prop):Prop :=
 ∀ (pins:List (Addr×Obj)) (s:Qf) (σ:St) (H:Hp) (x:V) (v:Qb) (Q:Bool->Hp->Prop),Inv X pins σ H s->RelV x v->r x H Q ->
  Qp (Qt X.prog X.w) X.A (truthy v) (TP X pins σ Q) X.xe s
def tOp (r:R2)(ta tb:TE):TE:=fun σ H Q=>ta σ H fun x H1=>tb σ H1 fun y H2=>r x y H2 Q
def tUn (r:V->Hp->VK->Prop)(ta:TE):TE:=fun σ H Q=>ta σ H fun x H1=>r x H1 Q
inductive rI_R (C:Int->Int->Prop)(g:Int->Int->V)(x y:V)(H:Hp)(Q:VK):Prop
 | mk (i j:_):x=.int i->y=.int j->C i j->Q (g i j) H->rI_R C g x y H Q
def rI (C:Int->Int->Prop)(g:Int->Int->V):R2:=fun x y H Q=>rI_R C g x y H Q
inductive Zma (g:Int->Int->V)(x y:V)(H:Hp)(Q:VK):Prop
 | mk (i j:_):x=.int i->y=.int j->Q (g i j) H->Zma g x y H Q
def rI0 (g:Int->Int->V):R2:=fun x y H Q=>Zma g x y H Q
inductive rU_R (g:Int->V)(x:V)(H:Hp)(Q:VK):Prop
 | mk (i:_):x=.int i->Q (g i) H->rU_R g x H Q
def rU (g:Int->V):V->Hp->VK->Prop:=fun x H Q=>rU_R g x H Q
section
variable {X:Cx}{a b c:Expr}{ta tb tc:TE}{pos:Pos}
theorem ZjZ (Z:PE X a ta)(hb:PE X b tb){pins:List (Addr×Obj)}{s:Qf}{σ:St}{H:Hp}{R:V->V->Hp->Prop}(I:Inv X pins σ H s)
 (h:ta σ H fun x H1=>tb σ H1 fun y H2=>R x y H2) {Q:Qb->Qf->Prop} {f:Qb->Qb->Sem Qb}
 (hf:∀ v u s2 x y H2,Inv X pins σ H2 s2->RelV x v->RelV y u->R x y H2->Qp (Qt X.prog X.w) X.A (f v u) Q X.xe s2) :
 Qp (Qt X.prog X.w) X.A (eval a X.env) (fun v B=>Qp (Qt X.prog X.w) X.A (eval b X.env) (fun u z=>Qp (Qt X.prog X.w) X.A (f v u) Q X.xe z) X.xe B) X.xe s:=by
 refine Zw (Z pins s σ H _ I h) fun v s1 D=>?_
 obtain ⟨x,H1,J,r1,Y⟩:=D
 refine Zw (hb pins s1 σ H1 _ J Y) fun u s2 D=>?_
 obtain ⟨y,H2,W,r2,q2⟩:=D
 exact hf v u s2 x y H2 W r1 r2 q2
theorem Zt (Z:Xm X (JR z) r)(W:PE X a ta)(Y:PE X b tb):PE X (.BinOp a z b pos) (tOp r ta tb):=by
 intro pins s σ H Q I h
 exact wpAny_BinOp (ZjZ W Y I h fun v u s2 x y H2 B J D q=>Z pins s2 σ H2 x y v u Q B J D q)
theorem Zhs (W:UnR X (unaryOp z) r)(J:PE X a ta):PE X (.UnaryOp z a pos) (tUn r ta):=by
 intro pins s σ H Q I h
 exact UnaryOp_ (Zw (J pins s σ H _ I h) fun v s1 ⟨x,H1,B,r1,D⟩=>W pins s1 σ H1 x v Q B r1 D)
theorem opI {f:Qb->Qb->Sem Qb}{C:Int->Int->Prop}{g:Int->Int->Int}
 (rule:∀ (i j:Int) (t u:Tok) (s:Qf) (Q:Qb->Qf->Prop) (E:Qb->Qf->Prop),C i j->Q (.int (g i j) s.toks) { s with toks:=s.toks+1 }->Qp (Qt X.prog X.w) X.A (f (.int i t) (.int j u)) Q E s) :
 Xm X f (rI C fun i j=>.int (g i j)):=by
 intro pins s σ H x y v u Q I D B h
 obtain ⟨i,j,rfl,rfl,z,q⟩:=h
 obtain ⟨t,rfl⟩:=D
 obtain ⟨t',rfl⟩:=B
 exact rule i j t t' s _ _ z ⟨.int (g i j),H,I.tok _,⟨_,rfl⟩,q⟩
theorem opI0 {f:Qb->Qb->Sem Qb}{g:Int->Int->Int}
 (rule:∀ (i j:Int) (t u:Tok) (s:Qf) (Q:Qb->Qf->Prop) (E:Qb->Qf->Prop),Q (.int (g i j) s.toks) { s with toks:=s.toks+1 }->Qp (Qt X.prog X.w) X.A (f (.int i t) (.int j u)) Q E s) :
 Xm X f (rI0 fun i j=>.int (g i j)):=by
 intro pins s σ H x y v u Q I B z h
 obtain ⟨i,j,rfl,rfl,q⟩:=h
 obtain ⟨t,rfl⟩:=B
 obtain ⟨t',rfl⟩:=z
 exact rule i j t t' s _ _ ⟨.int (g i j),H,I.tok _,⟨_,rfl⟩,q⟩
theorem Zhn {f:Qb->Qb->Sem Qb}{g:Int->Int->Bool}
 (rule:∀ (i j:Int) (t u:Tok) (s:Qf) (Q:Qb->Qf->Prop) (E:Qb->Qf->Prop),Q (.bool (g i j)) s->Qp (Qt X.prog X.w) X.A (f (.int i t) (.int j u)) Q E s) :
 Xm X f (rI0 fun i j=>.bl (g i j)):=by
 intro pins s σ H x y v u Q I B z h
 obtain ⟨i,j,rfl,rfl,q⟩:=h
 obtain ⟨t,rfl⟩:=B
 obtain ⟨t',rfl⟩:=z
 exact rule i j t t' s _ _ ⟨.bl (g i j),H,I,rfl,q⟩
def CDiv (i j:Int):Prop:=0 < j/\j < 1073741824
def CPow (i j:Int):Prop:=0<=j/\j<=1000000/\i.natAbs < 2 ^ 64
def CMul (i j:Int):Prop:=(-(2 ^ 64) < i/\i < 2 ^ 64)\/(-(2 ^ 64) < j/\j < 2 ^ 64)
theorem CMul.ok {i j:Int}(h:CMul i j):IntMulOk i j:=by
 rcases h with ⟨h1,h2⟩ | ⟨h1,h2⟩
 ·exact .of_left (intBits_le_64 h1 h2)
 ·exact .of_right (intBits_le_64 h1 h2)
theorem Yu:Xm X (JR .Add) (rI0 fun i j=>.int (i+j)):=opI0 fun _ _ _ _ _ _ _ q=>add_int q
theorem YW:Xm X (JR .Sub) (rI0 fun i j=>.int (i - j)):=opI0 fun _ _ _ _ _ _ _ q=>sub_int q
theorem Wr:Xm X (JR .Mult) (rI CMul fun i j=>.int (i * j)):=opI fun _ _ _ _ _ _ _ z q=>mul_int q z.ok
theorem Zgr:Xm X (JR .FloorDiv) (rI CDiv fun i j=>.int (i / j)):=opI fun i j _ _ _ _ _ z q=>by
 have h1:(0:Int) < j:=z.1
 have h2:j < 1073741824:=z.2
 exact floordiv_int (by omega) (by rw [JI i (by omega)];exact q) (.inl (Rp (by omega)))
theorem Xq:Xm X (JR .Mod) (rI (fun _ j=>0 < j) fun i j=>.int (i % j)):=opI fun i j _ _ _ _ _ z q=>by
 have h1:(0:Int) < j:=z
 exact mod_int' (by omega) (by rw [TQ i (by omega)];exact q)
theorem Zcf:Xm X (JR .Pow) (rI CPow fun i j=>.int (i ^ j.toNat)):=opI fun _ _ _ _ _ _ _ z q=>pow_int_small z.1 z.2.1 z.2.2 q
theorem unI {f:Qb->Sem Qb}{g:Int->Int}
 (rule:∀ (i:Int) (t:Tok) (s:Qf) (Q:Qb->Qf->Prop) (E:Qb->Qf->Prop),Q (.int (g i) s.toks) { s with toks:=s.toks+1 }->Qp (Qt X.prog X.w) X.A (f (.int i t)) Q E s) :
 UnR X f (rU fun i=>.int (g i)):=by
 intro pins s σ H x v Q I z h
 obtain ⟨i,rfl,q⟩:=h
 obtain ⟨t,rfl⟩:=z
 exact rule i t s _ _ ⟨.int (g i),H,I.tok _,⟨_,rfl⟩,q⟩
theorem ZfE:UnR X (unaryOp .USub) (rU fun i=>.int (-i)):=unI fun _ _ _ _ _ q=>neg_int q
end
def scal:V->V->Bool
 | .non,.non=>true | .non,.int _=>true | .int _,.non=>true | .non,.bl _=>true | .bl _,.non=>true | .non,.str _=>true | .str _,.non=>true
 | .int _,.int _=>true | .bl _,.bl _=>true | .str _,.str _=>true | .byt _,.byt _=>true
 | .int _,.str _=>true | .str _,.int _=>true | .bl _,.str _=>true | .str _,.bl _=>true
 | _,_=>false
def rEq:R2:=fun x y H Q=>scal x y=true/\Q (.bl (decide (x=y))) H
def rNe:R2:=fun x y H Q=>scal x y=true/\Q (.bl (!decide (x=y))) H
theorem Zge {i j:Int}:decide (V.int i=V.int j)=(i == j):=by
 rw [JU]
 simp
theorem Ziq :decide (V.bl i=V.bl j)=(i == j):=by
 rw [JU]
 simp
theorem Zgf :decide (V.str i=V.str j)=(i == j):=by
 rw [JU]
 simp
theorem Zgd :decide (V.byt i=V.byt j)=(i.toList == j.toList):=by
 rw [JU]
 cases i
 cases j
 simp
section
variable {X:Cx}{a b c:Expr}{ta tb tc:TE}{pos:Pos}
theorem ZX (I:Inv X pins σ H s)(q:Q (.bl k) H)(e:k=z):EP X pins σ Q (.bool z) s:=by
 subst e
 exact ⟨.bl k,H,I,rfl,q⟩
theorem Yo:Xm X (Gv .Eq) rEq:=by
 intro pins s σ H x y v u Q I D z h
 obtain ⟨B,q⟩:=h
 cases x with
 | non =>
  cases D
  cases y with
  | non=>cases z;exact PySem.EqNone.eq_none_none (ZX I q (by simp))
  | bl j=>cases z;exact PySem.EqNone.eq_none_bool (ZX I q (by simp))
  | int j=>obtain ⟨t',rfl⟩:=z;exact PySem.EqNone.eq_none_int (ZX I q (by simp))
  | str j=>obtain ⟨t',rfl⟩:=z;exact PySem.EqNone.eq_none_str (ZX I q (by simp))
  | _=>exact absurd (show false=true from B) Qx
 | bl i =>
  cases D
  cases y with
  | non=>cases z;exact PySem.EqNone.eq_bool_none (ZX I q (by simp))
  | bl j=>cases z;exact eq_bool (ZX I q Ziq)
  | str j=>obtain ⟨t',rfl⟩:=z;exact PySem.EqMixed.eq_bool_str (ZX I q (by simp))
  | _=>exact absurd (show false=true from B) Qx
 | int i =>
  obtain ⟨t,rfl⟩:=D
  cases y with
  | non=>cases z;exact PySem.EqNone.eq_int_none (ZX I q (by simp))
  | int j=>obtain ⟨t',rfl⟩:=z;exact eq_int (ZX I q Zge)
  | str j=>obtain ⟨t',rfl⟩:=z;exact PySem.EqMixed.eq_int_str (ZX I q (by simp))
  | _=>exact absurd (show false=true from B) Qx
 | str i =>
  obtain ⟨t,rfl⟩:=D
  cases y with
  | non=>cases z;exact PySem.EqNone.eq_str_none (ZX I q (by simp))
  | bl j=>cases z;exact PySem.EqMixed.eq_str_bool (ZX I q (by simp))
  | int j=>obtain ⟨t',rfl⟩:=z;exact PySem.EqMixed.eq_str_int (ZX I q (by simp))
  | str j=>obtain ⟨t',rfl⟩:=z;exact eq_str (ZX I q Zgf)
  | _=>exact absurd (show false=true from B) Qx
 | byt i =>
  obtain ⟨t,rfl⟩:=D
  cases y with
  | byt j=>obtain ⟨t',rfl⟩:=z;exact PySem.W.eq_bytes (ZX I q Zgd)
  | _=>exact absurd (show false=true from B) Qx
 | _=>cases y<;>exact absurd (show false=true from B) Qx
theorem Zce:Xm X (Gv .NotEq) rNe:=by
 intro pins s σ H x y v u Q I D z h
 obtain ⟨B,q⟩:=h
 cases x with
 | non =>
  cases D
  cases y with
  | non=>cases z;exact PySem.EqNone.ne_none_none (ZX I q (by simp))
  | bl j=>cases z;exact PySem.EqNone.ne_none_bool (ZX I q (by simp))
  | int j=>obtain ⟨t',rfl⟩:=z;exact PySem.EqNone.ne_none_int (ZX I q (by simp))
  | str j=>obtain ⟨t',rfl⟩:=z;exact PySem.EqNone.ne_none_str (ZX I q (by simp))
  | _=>exact absurd (show false=true from B) Qx
 | bl i =>
  cases D
  cases y with
  | non=>cases z;exact PySem.EqNone.ne_bool_none (ZX I q (by simp))
  | bl j=>cases z;exact ne_bool (ZX I q (congrArg not Ziq))
  | str j=>obtain ⟨t',rfl⟩:=z;exact PySem.EqMixed.ne_bool_str (ZX I q (by simp))
  | _=>exact absurd (show false=true from B) Qx
 | int i =>
  obtain ⟨t,rfl⟩:=D
  cases y with
  | non=>cases z;exact PySem.EqNone.ne_int_none (ZX I q (by simp))
  | int j=>obtain ⟨t',rfl⟩:=z;exact ne_int (ZX I q (congrArg not Zge))
  | str j=>obtain ⟨t',rfl⟩:=z;exact PySem.EqMixed.ne_int_str (ZX I q (by simp))
  | _=>exact absurd (show false=true from B) Qx
 | str i =>
  obtain ⟨t,rfl⟩:=D
  cases y with
  | non=>cases z;exact PySem.EqNone.ne_str_none (ZX I q (by simp))
  | bl j=>cases z;exact PySem.EqMixed.ne_str_bool (ZX I q (by simp))
  | int j=>obtain ⟨t',rfl⟩:=z;exact PySem.EqMixed.ne_str_int (ZX I q (by simp))
  | str j=>obtain ⟨t',rfl⟩:=z;exact ne_str (ZX I q (congrArg not Zgf))
  | _=>exact absurd (show false=true from B) Qx
 | byt i =>
  obtain ⟨t,rfl⟩:=D
  cases y with
  | byt j=>obtain ⟨t',rfl⟩:=z;exact PySem.W.ne_bytes (ZX I q (congrArg not Zgd))
  | _=>exact absurd (show false=true from B) Qx
 | _=>cases y<;>exact absurd (show false=true from B) Qx
theorem ZaC:Xm X (Gv .Lt) (rI0 fun i j=>.bl (decide (i < j))):=Zhn fun _ _ _ _ _ _ _ q=>lt_int q
theorem ZpJ:Xm X (Gv .LtE) (rI0 fun i j=>.bl (decide (i<=j))):=Zhn fun _ _ _ _ _ _ _ q=>le_int q
theorem Zho:Xm X (Gv .Gt) (rI0 fun i j=>.bl (decide (j < i))):=Zhn fun _ _ _ _ _ _ _ q=>gt_int q
theorem ZlX:Xm X (Gv .GtE) (rI0 fun i j=>.bl (decide (j<=i))):=Zhn fun _ _ _ _ _ _ _ q=>ge_int q
theorem ZH (b:Expr)(h:z≠.In:=by decide)(h2:z≠.NotIn:=by decide):Je z b=false:=by
 have e1:(z == CmpOp.In)=false:=by cases z<;>first | rfl | exact absurd rfl h
 have B:(z == CmpOp.NotIn)=false:=by cases z<;>first | rfl | exact absurd rfl h2
 cases b<;>simp [Je,e1,B]
theorem YK (ho:Xm X (Gv z) r)(W:PE X a ta)(Z:PE X b tb)(Y:Je z b=false):PE X (.Compare a [z] [b] pos) (tOp r ta tb):=by
 intro pins s σ H Q I h
 exact wpAny_Compare1 (ZjZ W Z I h fun v u s2 x y H2 B J D q=>ho pins s2 σ H2 x y v u Q B J D q) Y
def Zmk (t:TE):TT:=fun σ H Q=>t σ H fun x H'=>∃ k,x=.bl k/\Q k H'
theorem ZP (ho:Xm X (Gv B) r)(ha:PE X a ta)(hb:PE X b tb)(hm:Je B b=false):PT X (.Compare a [B] [b] pos) (Zmk (tOp r ta tb)):=by
 intro pins s σ H Q I h
 refine RT (Zw (ha pins s σ H _ I h) fun v s1 ⟨x,H1,D,r1,Y⟩=>Zw (hb pins s1 σ H1 _ D Y) fun u s2 ⟨y,H2,W,r2,q2⟩ =>
  Zw (ho pins s2 σ H2 x y v u _ W r1 r2 q2) fun c s3 ⟨z,H3,I3,Z,k,e,J⟩=>?_) hm
 subst e
 cases Z
 exact Gf ⟨H3,I3,J⟩
def Zpa (r r':R2)(ta tb tc:TE):TE:=fun σ H Q=>ta σ H fun x H1=>tb σ H1 fun y H2=>r x y H2 fun z H3=>∃ k,z=.bl k /\
 (if k=true then tc σ H3 fun w' H4=>r' y w' H4 Q else Q (.bl false) H3)
theorem Zlh (ho:Xm X (Gv J) r)(D:Xm X (Gv B) r')(ha:PE X a ta)(hb:PE X b tb)(hc:PE X c tc)(hm:lastMarks [J,B] [b,c]=false:=by with_unfolding_all rfl):PT X (.Compare a [J,B] [b,c] pos) (Zmk (Zpa r r' ta tb tc)):=by
 intro pins s σ H Q I h
 refine isTrue_chain (Zw (ha pins s σ H _ I h) fun v s1 ⟨x,H1,I1,r1,q1⟩=>test_link (Zw (hb pins s1 σ H1 _ I1 q1) fun u s2 ⟨y,H2,I2,Z,q2⟩ =>
  Zw (ho pins s2 σ H2 x y v u _ I2 r1 Z q2) fun d s3 ⟨z,Y,I3,r3,k,e,q3⟩=>?_)) hm
 subst e
 cases r3
 refine Gf ?_
 cases k with
 | false =>
  obtain ⟨k',e',q'⟩:=q3
  cases e'
  exact ite_ff ⟨Y,I3,q'⟩
 | true =>
  refine ite_tt (test_last (Zw (hc pins s3 σ Y _ I3 q3) fun w' s4 W=>?_))
  obtain ⟨z',H4,I4,r4,q4⟩:=W
  refine Zw (D pins s4 σ H4 y z' u w' _ I4 Z r4 q4) fun d' s5 W=>?_
  obtain ⟨z2,H5,I5,r5,k2,e2,q5⟩:=W
  subst e2
  cases r5
  exact Gf ⟨H5,I5,q5⟩
def TruV (K:Qa)(x:V)(H:Hp)(k:Bool):Prop :=
 match x with
 | .non=>k=false
 | .bl b=>k=b
 | .int i=>k=(i != 0)
 | .str y=>y.length<=Qi/\k=((y.length:Int) != 0)
 | .byt y=>y.size<=Qi/\k=((y.size:Int) != 0)
 | .ref p=>(∃ xs,SqL K H p xs/\k=!xs.isEmpty)\/(∃ xs,SqT K H p xs/\k=!xs.isEmpty)\/∃ kvs,H p=some (.dK kvs)/\k=!kvs.isEmpty
 | _=>False
theorem Zhe {κ:Type}{kvs:List (κ×V)}{vs:List (κ×Qb)}(r:KV kvs vs):(!vs.isEmpty)=!kvs.isEmpty:=by
 cases r<;>rfl
theorem ZbY (r:Vals xs z):(!z.toArray.isEmpty)=!xs.isEmpty:=by
 cases r<;>simp
theorem Us:(Qi:Nat) < 2 ^ 63:=by rw [QY];decide
theorem Zpn:TruR X (fun x H Q=>∃ k,TruV X.K x H k/\Q k H):=by
 intro pins s σ H x v Q I D h
 obtain ⟨k,e,q⟩:=h
 have hl:=Us
 have hs:Qi=16777216:=QY
 cases x with
 | non =>
  cases D
  have z:k=false:=e
  subst z
  exact truthy_none ⟨H,I,q⟩
 | bl b =>
  cases D
  have z:k=b:=e
  subst z
  exact Gf ⟨H,I,q⟩
 | int i =>
  obtain ⟨t,rfl⟩:=D
  have z:k=(i != 0):=e
  subst z
  exact PySem.P.truthy_int ⟨H,I,q⟩
 | str y =>
  obtain ⟨t,rfl⟩:=D
  obtain ⟨Z,z⟩:y.length<=Qi/\k=((y.length:Int) != 0):=e
  subst z
  exact PySem.P.truthy_str (by omega) ⟨H,I.tok _,q⟩
 | byt y =>
  obtain ⟨t,rfl⟩:=D
  obtain ⟨Z,z⟩:y.size<=Qi/\k=((y.size:Int) != 0):=e
  subst z
  exact PySem.W.truthy_bytes (by omega) ⟨H,I.tok _,q⟩
 | ref p =>
  cases D
  have z:(∃ xs,SqL X.K H p xs/\k=!xs.isEmpty)\/(∃ xs,SqT X.K H p xs/\k=!xs.isEmpty)\/∃ kvs,H p=some (.dK kvs)/\k=!kvs.isEmpty:=e
  rcases z with ⟨xs,J,z⟩ | ⟨xs,J,z⟩ | ⟨kvs,J,z⟩
  ·subst z
   obtain ⟨Y,r,pl,hz⟩:=I.list J
   have B:=r.length
   exact wpAny_truthy_list pl.isList (by simp only [size_toArray];omega) ⟨H,I.tok _,by rw [ZbY r];exact q⟩
  ·subst z
   obtain ⟨Y,r,pl,hz⟩:=I.tuple J
   have B:=r.length
   exact truthy_tuple pl (by simp only [size_toArray];omega) ⟨H,I.tok _,by rw [ZbY r];exact q⟩
  ·subst z
   obtain ⟨hz,hS,vs,r,m⟩:kvs.length<=Qi/\(p == Jd)=false/\∃ vs,KV kvs vs/\s.heap.DictOf (ZB X.prog X.w) p vs:=I.hok p _ J
   have B:kvs.length=vs.length:=JB r
   exact wpAny_truthy_dict hS m (by omega) ⟨H,I.tok _,by rw [Zhe r];exact q⟩
 | _=>exact (show False from e).elim
theorem VC (W:PE X a ta)(D:∀ z,isTrue a X.env z=(do let v <- z;Ro a.pos;Ph [v] (truthy v))) :
 PT X a (fun σ H Q=>ta σ H fun x H'=>∃ k,TruV X.K x H' k/\Q k H'):=by
 intro pins s σ H Q I h
 exact isTrue_plain (Zw (W pins s σ H _ I h) fun v s1 ⟨x,H1,B,r1,J⟩=>Zpn pins s1 σ H1 x v Q B r1 J) (D _)
theorem Wq:Xm X (JR .Add) (fun x y H Q=>∃ i j,x=.str i/\y=.str j/\i.length+j.length<=Qi/\Q (.str (i++j)) H):=by
 intro pins s σ H x y v u Q I B z h
 obtain ⟨i,j,rfl,rfl,hz,q⟩:=h
 obtain ⟨t,rfl⟩:=B
 obtain ⟨t',rfl⟩:=z
 exact add_str (fun t' tk=>⟨.str (i++j),H,I.tok _,⟨_,rfl⟩,q⟩) hz
theorem Yr (r:Vals [x] us):∃ u,us=[u]/\RelV x u:=by
 cases r with
 | cons r1 r2=>cases r2;exact ⟨_,rfl,r1⟩
theorem Zcx (r:Vals [x,y] us):∃ u z,us=[u,z]/\RelV x u/\RelV y z:=by
 cases r with
 | cons r1 r2 =>
  cases r2 with
  | cons r3 r4=>cases r4;exact ⟨_,_,rfl,r1,r3⟩
theorem Zew:Yv X (.builtin "abs") (fun xs H Q=>∃ i,xs=[.int i]/\Q (.int (if i < 0 then -i else i)) H):=by
 intro pins s σ H xs us Q I r h
 obtain ⟨i,rfl,q⟩:=h
 obtain ⟨u,rfl,t,rfl⟩:=Yr r
 exact call_abs_int fun u tk=>⟨.int (if i < 0 then -i else i),H,I.tok _,⟨_,rfl⟩,q⟩
theorem Zij (z:X.calm=true):Yv X (.builtin "max") (fun xs H Q=>∃ i j,xs=[.int i,.int j]/\Q (.int (if j > i then j else i)) H):=by
 intro pins s σ H xs us Q I r h
 obtain ⟨i,j,rfl,q⟩:=h
 obtain ⟨u,B,rfl,⟨t,rfl⟩,⟨t',rfl⟩⟩:=Zcx r
 refine max_two_ints (I.ok.hd z) fun h' tk k=>⟨_,H,I.kept k,?_,q⟩
 by_cases hj:j > i
 ·rw [if_pos hj,if_pos hj];exact ⟨_,rfl⟩
 ·rw [if_neg hj,if_neg hj];exact ⟨_,rfl⟩
theorem Zik (z:X.calm=true):Yv X (.builtin "min") (fun xs H Q=>∃ i j,xs=[.int i,.int j]/\Q (.int (if j < i then j else i)) H):=by
 intro pins s σ H xs us Q I r h
 obtain ⟨i,j,rfl,q⟩:=h
 obtain ⟨u,B,rfl,⟨t,rfl⟩,⟨t',rfl⟩⟩:=Zcx r
 refine min_two_ints (I.ok.hd z) fun h' tk k=>⟨_,H,I.kept k,?_,q⟩
 by_cases hj:j < i
 ·rw [if_pos hj,if_pos hj];exact ⟨_,rfl⟩
 ·rw [if_neg hj,if_neg hj];exact ⟨_,rfl⟩
theorem VU:Yv X (.type "int") (fun xs H Q=>(∃ i,xs=[.int i]/\Q (.int i) H)\/∃ k,xs=[.bl k]/\Q (.int (if k then 1 else 0)) H):=by
 intro pins s σ H xs us Q I r h
 rcases h with ⟨i,rfl,q⟩ | ⟨k,rfl,q⟩
 ·obtain ⟨u,rfl,t,rfl⟩:=Yr r
  exact call_int_int ⟨.int i,H,I,⟨_,rfl⟩,q⟩
 ·obtain ⟨u,rfl,r1⟩:=Yr r
  cases r1
  exact call_int_bool ⟨.int (if k then 1 else 0),H,I.tok _,⟨_,rfl⟩,q⟩
theorem Zex:Yv X (.builtin "ord") (fun xs H Q=>∃ x,xs=[.str x]/\x.length=1/\Q (.int (x.cps.getD 0 0:Nat)) H):=by
 intro pins s σ H xs us Q I r h
 obtain ⟨x,rfl,hz,q⟩:=h
 obtain ⟨u,rfl,t,rfl⟩:=Yr r
 exact ord_of_one hz ⟨.int _,H,I.tok _,⟨_,rfl⟩,q⟩
def ZjT (K:Qa)(x:V)(H:Hp)(n:Nat):Prop :=
 match x with
 | .str y=>y.length<=Qi/\n=y.length
 | .byt y=>y.size<=Qi/\n=y.size
 | .ref p=>(∃ xs,SqL K H p xs/\n=xs.length)\/∃ xs,SqT K H p xs/\n=xs.length
 | _=>False
theorem Zka:Yv X (.builtin "len") (fun xs H Q=>∃ x n,xs=[x]/\ZjT X.K x H n/\Q (.int n) H):=by
 intro pins s σ H xs us Q I r h
 obtain ⟨x,n,rfl,e,q⟩:=h
 obtain ⟨u,rfl,J⟩:=Yr r
 have hl:=Us
 have hs:Qi=16777216:=QY
 cases x with
 | str y =>
  obtain ⟨t,rfl⟩:=J
  obtain ⟨hy,B⟩:y.length<=Qi/\n=y.length:=e
  subst B
  exact len_str (by omega) ⟨.int _,H,I.tok _,⟨_,rfl⟩,q⟩
 | byt y =>
  obtain ⟨t,rfl⟩:=J
  obtain ⟨hy,B⟩:y.size<=Qi/\n=y.size:=e
  subst B
  exact PySem.W.len_bytes (by omega) ⟨.int _,H,I.tok _,⟨_,rfl⟩,q⟩
 | ref p =>
  cases J
  have B:(∃ xs,SqL X.K H p xs/\n=xs.length)\/∃ xs,SqT X.K H p xs/\n=xs.length:=e
  rcases B with ⟨xs,Z,B⟩ | ⟨xs,Z,B⟩
  ·subst B
   obtain ⟨Y,D,pl,hz⟩:=I.list Z
   have z:=D.length
   exact Oz pl.isList (by simp only [size_toArray];omega) ⟨.int xs.length,H,I.tok _,⟨_,by simp only [size_toArray];rw [z]⟩,q⟩
  ·subst B
   obtain ⟨Y,D,pl,hz⟩:=I.tuple Z
   have z:=D.length
   exact len_tuple pl (by simp only [size_toArray];omega) ⟨.int xs.length,H,I.tok _,⟨_,by simp only [size_toArray];rw [z]⟩,q⟩
 | _=>exact (show False from e).elim
theorem ZfJ:Yv X (.builtin "divmod") (fun xs H Q=>∃ i j,xs=[.int i,.int j]/\CDiv i j/\∀ p,H p=none->Q (.ref p) (upd H p (.tup [.int (i / j),.int (i % j)]))):=by
 intro pins s σ H xs us Q I r h
 obtain ⟨i,j,rfl,⟨h1,h2⟩,q⟩:=h
 obtain ⟨u,B,rfl,⟨t,rfl⟩,⟨t',rfl⟩⟩:=Zcx r
 refine divmod_int (by omega) ?_ (.inl (Rp (by omega)))
 rw [JI i (by omega),TQ i (by omega)]
 have z:H s.heap.objs.size=none:=I.hok.fresh (Qe _)
 refine ⟨.ref s.heap.objs.size,_,?_,rfl,q _ z⟩
 refine I.laid (fun b o e=>Qc _ e) (Qe _) ⟨by simp only [length_cons,JV];rw [QY];decide,[.int (i / j) s.toks,.int (i % j) (s.toks+1)],.cons ⟨_,rfl⟩ (.cons ⟨_,rfl⟩ .nil),?_⟩
 exact ⟨_,Qk s.heap rfl,rfl,0,rfl⟩
end
structure ObjM (h:Heap)(x dx C:Addr)(mA:Str->Option Qb):Prop where
 obj:h.get? x=some (GD C dx)
 ns:h.Ns1 dx mA
 ne:dx≠x
theorem ZiO {h:Heap}{dx:Addr}{mA:Str->Option Qb}(n:h.Ns1 dx mA):∃ D,h.get? dx=some D/\∀ name,TU name D=some (mA name):=by
 obtain ⟨o,es,ep,ho,Y,J,_,hm⟩:=n
 refine ⟨o,ho,fun name=>?_⟩
 have e:=hm name
 unfold nsFind findBy at e
 rw [<- Array.find?_toList] at e
 unfold TU
 rw [Y]
 dsimp only
 split
 ·rename_i y q
  rw [q] at e
  exact congrArg some e
 ·rename_i q
  rw [q] at e
  have a:es.toList.any (·.refKey)=false:=by
   rw [List.any_eq_false]
   intro y W
   obtain ⟨z,t,B⟩:=J y (Array.mem_toList_iff.mp W)
   simp [DictEntry.refKey,B]
  have Z:¬ es.toList.any (·.refKey)=true:=by rw [a];exact Qx
  rw [if_neg Z]
  exact congrArg some e
theorem ObjM.look (I:ObjM h x dx C mA):∃ z,PySem.W.InstAt h x (GD C dx) C (some z)/\∀ name,TU name z=some (mA name) :=
 let ⟨z,ho,hl⟩:=ZiO I.ns
 ⟨z,⟨I.obj,rfl,rfl,ho⟩,hl⟩
section
variable {prog:Ql}{w:Qs}{A:QL}{E:Qb->Qf->Prop}{s:Qf}{K:Qa}{x dx C f:Addr}{mA:Str->Option Qb}{name:Str}{v:Qb}
theorem Zmw (X:K.In s.heap)(I:ObjM s.heap x dx C mA)(Y:PU K C name=true)(D:So K C=true)(ha:QR K (.ref C) name=some none)(hv:mA name=some v)(B:Mg v=true)(h:Q v { s with toks:=s.toks+1 }):
 Qp (Qt prog w) A (getAttr (.ref x) name z) Q E s:=by
 obtain ⟨od,J,Z⟩:=I.look
 exact PySem.W.get_value X J (Tt Y).1 (PySem.W.findObj_own D ha rfl (by rw [Z,hv])) B h
theorem Zkk (X:K.In s.heap)(I:ObjM s.heap x dx C mA)(z:PU K C name=true)(Z:QR K (.ref C) name=some (some (.ref f)))(ht:Ny K (.ref f)=true)(Y:mA name=none)(h:Q (.ref f,[.ref x]) s):
 Qp (Qt prog w) A (SZ (.ref x) name pl) Q E s:=by
 obtain ⟨B,J,D⟩:=I.look
 exact PySem.W.method_fn X J (Tt z).1 (Tt z).2 Z (beq_iff_eq.mp ht) (by show (TU name B).map (·.isSome)=some false;rw [D,Y];rfl) h
theorem Znr (X:K.In s.heap)(I:ObjM s.heap x dx C mA)(hs:QR K (.ref C) "__setattr__"=some (some (.builtin "object.__setattr__")))(hp:Nz K C=true)(ht:RH K C name=some none)(hh:So K C=true)(hw:Nu mA ns)(hsz:ns.length<=Qi)(h:∀ h',ObjM h' x dx C (fun y=>if y=name then some v else mA y)->Pg dx s.heap h'->Q () { s with heap:=h',toks:=s.toks+2 }):
 Qp (Qt prog w) A (setAttr (.ref x) name v) Q E s:=by
 obtain ⟨od,J,hl⟩:=I.look
 refine PySem.W.set_plain X J hs (PySem.W.osa_open (s:={ s with toks:=s.toks+1 }) (r:=none) X J hp ht fun b=>?_)
 obtain ⟨cd,hc,D⟩:=PySem.W.any_some hh
 have hx:s.heap.get? x=some ⟨.ref C,some dx,.plain,#[]⟩:=I.obj
 refine Qd (Qh (Qd (Qd (wpAny_loadPart hx (Qd (PySem.W.Looks.here (s:={ s with toks:=s.toks+1 }) (PySem.W.looks_clsIn X hc) ?_))))))
 rw [D]
 refine Qh (a:=some dx) (Qd (Qh (Qd ?_)))
 refine wpAny_nsSet1 (s:={ s with toks:=s.toks+1 }) I.ns fun h' B z=>?_
 obtain ⟨oD,esD,epD,Y,hdD,Z⟩:=B.count (PySem.Within.cons name v hw)
 refine Qd (wpAny_lookBehind Y (by rw [hdD];exact pastItsLine_dict (Qr Z (by rw [length_cons];omega))) ?_)
 exact Qh (h _ ⟨(z.2 _ (Jv I.ne)).trans I.obj,B,I.ne⟩ z)
theorem Zkt (X:K.In s.heap)(B:RI K C=true)(hi:QR K (.ref C) "__init__"=some (some (.ref f)))(D:PySem.W.typeIn K (.ref f)=some (.type "function"))(h:JN (Qt prog w) (A.under (.builtin "type.__call__" ⟨.ref C::vs,z⟩)) (.call (.ref f) ⟨.ref (s.heap.objs.size+1)::vs,z⟩) (PySem.W.InitBack (s.heap.objs.size+1) R)
  {s with heap:=(s.heap.push Go).push (GD C s.heap.objs.size) }):
 JN (Qt prog w) A (.call (.ref C) ⟨vs,z⟩) R s:=by
 obtain ⟨J,g,d,t,os⟩:=s
 exact PySem.W.make_core (PySem.W.makes_of X B) (PySem.W.looks_findIn X hi) (fun self=>PySem.W.bind_fn X self D) (.inl rfl) h
end
def Xz (f:Str)(v:V):List (Str×V)->List (Str×V)
 | []=>[(f,v)]
 | (g,x)::r=>if g=f then (g,v)::r else (g,x)::Xz f v r
theorem Xl (f g:Str)(v:V):∀ fs:List (Str×V),(Xz f v fs).lookup g=if g=f then some v else fs.lookup g
 | []=>by
  show JJ g [(f,v)]=_
  by_cases h:g=f
  ·have z:(g == f)=true:=beq_iff_eq.mpr h
   simp only [JJ,z,if_pos h]
  ·have z:(g == f)=false:=beq_eq_false_iff_ne.mpr h
   simp only [JJ,z,if_neg h]
 | (k, x)::r=>by
  have D:=Xl f g v r
  rw [show Xz f v ((k,x)::r)=(if k=f then (k,v)::r else (k,x)::Xz f v r) from rfl]
  by_cases B:k=f
  ·rw [if_pos B]
   by_cases h:g=k
   ·have z:(g == k)=true:=beq_iff_eq.mpr h
    simp only [JJ,z,if_pos (h.trans B)]
   ·have z:(g == k)=false:=beq_eq_false_iff_ne.mpr h
    simp only [JJ,z,if_neg (fun e:g=f=>h (e.trans B.symm))]
  ·rw [if_neg B]
   by_cases h:g=k
   ·have z:(g == k)=true:=beq_iff_eq.mpr h
    simp only [JJ,z,if_neg (fun e:g=f=>B (h.symm.trans e))]
   ·have z:(g == k)=false:=beq_eq_false_iff_ne.mpr h
    simp only [JJ,z]
    exact D
theorem Zab (f:Str)(v:V):∀ fs:List (Str×V),f∈(Xz f v fs).map (·.1)/\∀ g,g∈fs.map (·.1)->g∈(Xz f v fs).map (·.1)
 | []=>⟨by simp [Xz],fun g h=>by simp at h⟩
 | (k, x)::r=>by
  obtain ⟨D,B⟩:=Zab f v r
  rw [show Xz f v ((k,x)::r)=(if k=f then (k,v)::r else (k,x)::Xz f v r) from rfl]
  by_cases z:k=f
  ·rw [if_pos z]
   subst z
   exact ⟨by simp,fun g h=>by simpa using h⟩
  ·rw [if_neg z]
   refine ⟨?_,fun g h=>?_⟩
   ·rw [map_cons]
    exact mem_cons_of_mem _ D
   ·rw [map_cons] at h ⊢
    rcases mem_cons.mp h with e | e
    ·exact mem_cons.mpr (.inl e)
    ·exact mem_cons_of_mem _ (B g e)
theorem ZaL (f:Str)(v:V):∀ fs:List (Str×V),(Xz f v fs).length<=fs.length+1
 | []=>by simp [Xz]
 | (k,x)::r=>by
  have B:=ZaL f v r
  rw [show Xz f v ((k,x)::r)=(if k=f then (k,v)::r else (k,x)::Xz f v r) from rfl]
  by_cases z:k=f
  ·rw [if_pos z,length_cons,length_cons];omega
  ·rw [if_neg z,length_cons,length_cons];omega
theorem RelO.some_of {v:V}(r:RelO (some v) o):∃ u,o=some u/\RelV v u:=by
 cases o with
 | none=>exact (show False from r).elim
 | some u=>exact ⟨u,rfl,r⟩
theorem RelO.none_of (r:RelO none o):o=none:=by
 cases o with
 | none=>rfl
 | some u=>exact (show False from r).elim
theorem Ziw (r:RelV v u):Mg u=true:=by
 cases v with
 | non=>cases (show u=Jc from r);rfl
 | bl b=>cases (show u=Rm b from r);rfl
 | int i=>obtain ⟨t,e⟩:=(show ∃ t,u=TL i t from r);cases e;rfl
 | str x=>obtain ⟨t,e⟩:=(show ∃ t,u=Pb x t from r);cases e;rfl
 | byt b=>obtain ⟨t,e⟩:=(show ∃ t,u=Value.bytes b t from r);cases e;rfl
 | flt b=>obtain ⟨t,e⟩:=(show ∃ t,u=Mx b t from r);cases e;rfl
 | ref a=>cases (show u=QE a from r);rfl
 | ty n=>cases (show u=GO n from r);rfl
section
variable {P:Ql}{w:Qs}{H H':Hp}{h h':Heap}{a C dx:Addr}{fs fs':List (Str×V)}
theorem Zaz (B:HOk P w H h)(e:H a=some (.ins C dx fs)):∃ mA,ObjM h a dx C mA/\(∀ f,RelO (fs.lookup f) (mA f))/\Nu mA (fs.map (·.1))/\fs.length<=1000/\H dx=some (.own a):=by
 obtain ⟨d,z,ne,D,mA,n,r,q⟩:=(show ObjOk P w H h a (.ins C dx fs) from B a _ e)
 exact ⟨mA,⟨D,n,ne⟩,r,q,z,d⟩
end
structure Cls (K:Qa)(C:Addr):Prop where
 pg:PU K C Str.empty=true
 hd:So K C=true
 po:Nz K C=true
 sa:QR K (.ref C) "__setattr__"=some (some (.builtin "object.__setattr__"))
theorem Cls.get {K:Qa}{C:Addr}(c:Cls K C)(f:Str):PU K C f=true:=c.pg
def NoAttr (K:Qa)(C:Addr)(f:Str):Prop:=QR K (.ref C) f=some none
theorem NoAttr.taker {K:Qa}{C:Addr}{f:Str}(n:NoAttr K C f):RH K C f=some none:=by
 unfold RH
 rw [show QR K (.ref C) f=some none from n]
 rfl
structure Vi (K:Qa)(C:Addr)(m:Str)(f:Addr):Prop where
 at_:QR K (.ref C) m=some (some (.ref f))
 fn:Ny K (.ref f)=true
 kp:Jn K (.ref f)=true
section
variable {X:Cx}{pins:List (Addr×Obj)}{σ:St}{H:Hp}{s:Qf}{a C dx:Addr}{fs:List (Str×V)}{f:Str}{v:V}{A:QL}{E:Qb->Qf->Prop}
theorem Zhc (I:Inv X pins σ H s)(e:H a=some (.ins C dx fs))(c:Cls X.K C)(n:NoAttr X.K C f)(l:fs.lookup f=some v)(h:∀ u s',Inv X pins σ H s'->RelV v u->Q u s'):Qp (Qt X.prog X.w) A (getAttr (.ref a) f b) Q E s:=by
 obtain ⟨mA,O,r,_,_,_⟩:=Zaz I.hok e
 obtain ⟨u,B,z⟩:=RelO.some_of (v:=v) (o:=mA f) (by rw [<- l];exact r f)
 exact Zmw I.kIn O (c.get f) c.hd n B (Ziw z) (h u _ (I.tok _) z)
theorem ZbV (I:Inv X pins σ H s)(e:H a=some (.ins C dx fs))(c:Cls X.K C)(k:Vi X.K C m g)(l:fs.lookup m=none)(h:Q (.ref g,[.ref a]) s):Qp (Qt X.prog X.w) A (SZ (.ref a) m pl) Q E s:=by
 obtain ⟨mA,O,r,_,_,_⟩:=Zaz I.hok e
 have z:mA m=none:=RelO.none_of (by rw [<- l];exact r m)
 exact Zkk I.kIn O (c.get m) k.at_ k.fn z h
theorem ZhJ (I:Inv X pins σ H s)(e:H a=some (.ins C dx fs))(c:Cls X.K C)(n:NoAttr X.K C f)(hl:fs.length < 1000)(W:RelV y u)(h:∀ s',Inv X pins σ (upd H a (.ins C dx (Xz f y fs))) s'->Q () s'):Qp (Qt X.prog X.w) A (setAttr (.ref a) f u) Q E s:=by
 obtain ⟨mA,O,r,wi,_,D⟩:=Zaz I.hok e
 have hz:(fs.map (·.1)).length<=sizeLine:=by rw [length_map,QY];omega
 refine Znr I.kIn O c.sa c.po n.taker c.hd wi hz fun h' B Y=>h _ ?_
 have Z:∃ o,h'.get? dx=some o:=let ⟨o,_,_,e',_⟩:=B.ns;⟨o,e'⟩
 refine I.write (x:=a) (e:=dx) (by rw [e];exact Gw) (.inr D) (fun b q hb z=>(Y.2 b hb).trans z) Z ?_
 refine ⟨by rw [Zl O.ne];exact D,?_,O.ne,B.obj,_,B.ns,fun g=>?_,fun g J=>?_⟩
 ·have:=ZaL f y fs;omega
 ·show RelO ((Xz f y fs).lookup g) (if g=f then some u else mA g)
  rw [Xl]
  by_cases q:g=f
  ·rw [if_pos q,if_pos q];exact W
  ·rw [if_neg q,if_neg q];exact r g
 ·by_cases q:g=f
  ·rw [q];exact (Zab f y fs).1
  ·refine (Zab f y fs).2 g (wi g fun z=>J ?_)
   show (if g=f then some u else mA g)=none
   rw [if_neg q];exact z
theorem Inv.made (I:Inv X pins σ H s):Inv X pins σ (upd (upd H s.heap.objs.size (.own (s.heap.objs.size+1))) (s.heap.objs.size+1) (.ins C s.heap.objs.size []))
 {s with heap:=(s.heap.push Go).push (GD C s.heap.objs.size) }:=by
 have e1:(s.heap.push Go).get? s.heap.objs.size=some PySem.W.emptyDict:=Qk s.heap rfl
 have Y:((s.heap.push Go).push (GD C s.heap.objs.size)).get? (s.heap.objs.size+1)=some (GD C s.heap.objs.size):=by
  have:=Qk (s.heap.push Go) (o:=GD C s.heap.objs.size) rfl
  rwa [Gc] at this
 have z:(s.heap.push Go).Ns s.heap.objs.size (fun _=>none):=⟨Go,#[],_,e1,rfl,(fun e D=>absurd D (by simp)),fun _=>rfl⟩
 have B:=I.laid (a:=s.heap.objs.size) (o:=.own (s.heap.objs.size+1)) (h':=s.heap.push Go) (t':=s.toks) (fun b u q=>Qc _ q) (Qe _) ⟨_,e1⟩
 refine B.laid (a:=s.heap.objs.size+1) (o:=.ins C s.heap.objs.size []) (t':=s.toks) (fun b u q=>Qc _ q) (Tw (Gc _ _)) ?_
 have ne:s.heap.objs.size≠s.heap.objs.size+1:=Qn (GN _)
 refine ⟨by rw [Zl ne,Zi],Qw _,ne,Y,fun _=>none,(Heap.Ns1.of_empty z).at fun o q=>Qc _ q,fun _=>Gw,fun y J=>absurd rfl J⟩
theorem Zmq (B:JD e f env (eval e env)=eval e env)(h:Qp (Qt prog w) A (eval e env) (fun o z=>Qp (Qt prog w) A (getAttr o f true) Q E z) E s):Qp (Qt prog w) A (eval (.Attribute e f pos) env) Q E s :=
 Attribute_any_ h (by rw [arm_eval_Attribute,B])
end
inductive ZjI (K:Qa)(f:Str)(Q:VK)(x:V)(H1:Hp):Prop
 | mk (a C dx fs v:_):x=.ref a->H1 a=some (.ins C dx fs)->Cls K C->NoAttr K C f->fs.lookup f=some v->Q v H1->ZjI K f Q x H1
def tFld (K:Qa)(ta:TE)(f:Str):TE:=fun σ H Q=>ta σ H fun x H1=>ZjI K f Q x H1
inductive Zjw (K:Qa)(f:Str)(D:YF)(σ:St)(y x:V)(H2:Hp):Prop
 | mk (a C dx fs:_):x=.ref a->H2 a=some (.ins C dx fs)->Cls K C->NoAttr K C f->fs.length < 1000->D.nx σ (upd H2 a (.ins C dx (Xz f y fs)))->Zjw K f D σ y x H2
def sFld (K:Qa)(ta tv:TE)(f:Str):TS:=fun D σ H=>tv σ H fun y H1=>ta σ H1 fun x H2=>Zjw K f D σ y x H2
section
variable {X:Cx}{o e value:Expr}{f:Str}{pos pos' tpos:Pos}{ta tv:TE}
theorem ZS (z:PE X e ta)(Y:JD e f X.env (eval e X.env)=eval e X.env):PE X (.Attribute e f pos) (tFld X.K ta f):=by
 intro pins s σ H Q I h
 refine Zmq Y (Zw (z pins s σ H _ I h) fun u s1 W=>?_)
 obtain ⟨x,H1,B,J,a,C,dx,fs,v,ex,ea,c,n,l,q⟩:=W
 subst ex
 obtain rfl:u=QE a:=J
 exact Zhc B ea c n l fun u' s2 D Z=>⟨v,H1,D,Z,q⟩
theorem Uv (ha:PE X o ta)(J:PE X value tv)(hs:SX value (some (.Attribute o f pos')) pos.line X.env=pure false):PS X (.Assign [.Attribute o f pos'] value pos) (sFld X.K ta tv f):=by
 intro pins s σ H D I h
 refine plainObj_wpAny_Assign_Attribute (Zw (J pins s σ H _ I h) fun u s1 z=>?_) hs
 obtain ⟨y,H1,B,Y,q⟩:=z
 refine Zw (ha pins s1 σ H1 _ B q) fun ov s2 z=>?_
 obtain ⟨x,H2,W,Z,a,C,dx,fs,ex,ea,c,n,l,q2⟩:=z
 subst ex
 obtain rfl:ov=QE a:=Z
 exact ZhJ W ea c n l Y fun s3 I3=>⟨σ,_,I3,q2⟩
end
section
variable {X:Cx}{pins:List (Addr×Obj)}{σ:St}{H:Hp}{s:Qf}{A:QL}{E:Qb->Qf->Prop}{Q:Qb->Qf->Prop}{c:Qb}{b:Bool}
inductive WB (K:Qa)(H:Hp):V->Qb->Prop where
 | non:WB K H .non (.type "NoneType")
 | bl (x:Bool):WB K H (.bl x) (.type "bool")
 | int (i:Int):WB K H (.int i) (.type "int")
 | str (x:Str):WB K H (.str x) (.type "str")
 | flt (x:UInt64):WB K H (.flt x) (.type "float")
 | lst {a:Addr} {xs:List V} (e:H a=some (.lst xs)):WB K H (.ref a) (.type "list")
 | frz {a:Addr} {o:Obj} {xs:List V} (e:H a=some (.frz o (.lst xs))):WB K H (.ref a) (.type "list")
 | tup {a:Addr} {xs:List V} (e:H a=some (.tup xs)):WB K H (.ref a) (.type "tuple")
 | dK {a:Addr} {kvs:List (Zj×V)} (e:H a=some (.dK kvs)):WB K H (.ref a) (.type "dict")
 | dT {a:Addr} {kvs:List (List Zj×V)} (e:H a=some (.dT kvs)):WB K H (.ref a) (.type "dict")
 | ins {a C dx:Addr} {fs:List (Str×V)} (e:H a=some (.ins C dx fs)) (cl:Cls K C) (ha:QR K (.ref C) "__class__"=some (some (.builtin "object.__class__")))
     (hn:PySem.W.specialIn K (.builtin "object.__class__") "__get__"=some (some (.builtin "getset_descriptor.__get__"))) (htk:PySem.W.takesIn K (.builtin "object.__class__")=some true)
     (hm:PySem.W.mroIn K C (.type "object")=some true):WB K H (.ref a) (.ref C)
theorem ZiC (I:Inv X pins σ H s)(B:RelV x u)(ty:WB X.K H x t)(e:PySem.W.kitOne X.K t c=some b)(h:∀ tk,Q (.bool b) { s with toks:=tk }):
 Qp (Qt X.prog X.w) A (call (.builtin "isinstance") [u,c]) Q E s:=by
 cases ty with
 | non=>cases (show u=Jc from B);exact Gd PySem.W.kitx_none I.kIn Gw e (fun z=>nomatch z) h
 | bl y=>cases (show u=Rm y from B);exact Gd PySem.W.kitx_bool I.kIn Gw e (fun z=>nomatch z) h
 | int i=>obtain ⟨t,q⟩:=(show ∃ t,u=TL i t from B);cases q;exact Gd PySem.W.kitx_int I.kIn Gw e (fun z=>nomatch z) h
 | str y=>obtain ⟨t,q⟩:=(show ∃ t,u=Pb y t from B);cases q;exact Gd PySem.W.kitx_str I.kIn Gw e (fun z=>nomatch z) h
 | flt y=>obtain ⟨t,q⟩:=(show ∃ t,u=Mx y t from B);cases q;exact Gd PySem.W.kitx_float I.kIn Gw e (fun z=>nomatch z) h
 | @lst a xs ea =>
  cases (show u=QE a from B)
  obtain ⟨_,_,n,_,h1⟩:=(show ObjOk X.prog X.w H s.heap a (.lst xs) from I.hok a _ ea)
  exact Gd NA I.kIn ⟨_,h1,rfl⟩ e (fun z=>nomatch z) h
 | @frz a ob xs ea =>
  cases (show u=QE a from B)
  obtain ⟨_,_,_,n,_,h1⟩:=(show ObjOk X.prog X.w H s.heap a (.frz ob (.lst xs)) from I.hok a _ ea)
  exact Gd NA I.kIn ⟨_,h1,rfl⟩ e (fun z=>nomatch z) h
 | @tup a xs ea =>
  cases (show u=QE a from B)
  obtain ⟨_,_,_,p⟩:=(show ObjOk X.prog X.w H s.heap a (.tup xs) from I.hok a _ ea)
  obtain ⟨o,h1,h2,_⟩:=p
  exact Gd PySem.W.kitx_tuple I.kIn ⟨o,h1,h2⟩ e (fun z=>nomatch z) h
 | @dK a kvs ea =>
  cases (show u=QE a from B)
  obtain ⟨_,_,vs,_,p⟩:=(show ObjOk X.prog X.w H s.heap a (.dK kvs) from I.hok a _ ea)
  obtain ⟨o,es,ep,h1,h2,_⟩:=p
  exact Gd NB I.kIn ⟨o,h1,h2.1⟩ e (fun z=>nomatch z) h
 | @dT a kvs ea =>
  cases (show u=QE a from B)
  obtain ⟨_,_,xs,_,o,es,ep,h1,h2,_⟩:=(show ObjOk X.prog X.w H s.heap a (.dT kvs) from I.hok a _ ea)
  exact Gd NB I.kIn ⟨o,h1,h2.1⟩ e (fun z=>nomatch z) h
 | @ins a C dx fs ea cl ha hn htk hm =>
  cases (show u=QE a from B)
  obtain ⟨mA,O,_⟩:=Zaz I.hok ea
  obtain ⟨D,J,_⟩:=O.look
  exact Gd (PySem.W.kitx_own (cl.get _) cl.hd ha hn htk hm) I.kIn J e (fun z=>nomatch z) h
end
structure Room (k:Nat)(A:QL):Prop where
 hd:A.handled=none
 dp:A.depth+3 * k+5 < Og
 un:A.units+16 * k+200 < Oh
 gd:A.guards=some []
theorem Room.mono {j k:Nat}(r:Room k A)(h:j<=k):Room j A:=⟨r.hd,by have:=r.dp;omega,by have:=r.un;omega,r.gd⟩
theorem Room.deeper {k:Nat}(r:Room (k+1) A)(env:Env):Room k (A.deeper env) :=
 ⟨r.hd,by have:=r.dp;show A.depth+1+3 * k+5 < _;omega,by have:=r.un;show A.units+3+16 * k+200 < _;omega,r.gd⟩
theorem Zhg {A:QL}{C:Addr}{us:List Qb}{z:List (Str×Qb)}:(A.under (.builtin "type.__call__" ⟨.ref C::us,z⟩)).depth=A.depth+1:=by
 first | rfl | simp [Rq,Code.weight,Code.isCreation,Code.isGuard,Code.isCaller,Code.frames,NC,guardIds]
theorem Zhh {A:QL}{C:Addr}{us:List Qb}{z:List (Str×Qb)}:(A.under (.builtin "type.__call__" ⟨.ref C::us,z⟩)).units=A.units+1:=by
 first | rfl | simp [Rq,Code.cUnits,Code.frames,NC]
theorem Room.make {k:Nat}(r:Room (k+1) A)(C:Addr)(us:List Qb)(z:List (Str×Qb)):Room k (A.under (.builtin "type.__call__" ⟨.ref C::us,z⟩)) :=
 ⟨r.hd,by have:=r.dp;rw [Zhg];omega,by have:=r.un;rw [Zhh];omega,by first | exact r.gd | simpa [Rq,Code.isGuard,guardIds] using r.gd⟩
theorem Room.depth {k:Nat}(r:Room k A):A.depth < recursionLimit:=by have:=r.dp;omega
theorem Room.units {k:Nat}(r:Room k A):A.units+64 < cLine:=by have:=r.un;omega
def Xr:TA:=fun _ H Q=>Q [] H
def Xu (ta:TE)(tr:TA):TA:=fun σ H Q=>ta σ H fun x H1=>tr σ H1 fun xs H2=>Q (x::xs) H2
section
variable {X:Cx}{e:Expr}{es:List Expr}{te:TE}{t:TA}{pos:Pos}
theorem Za:PA X [] Xr:=fun _ _ _ _ H Q I h=>Sq ⟨[],H,I,.nil,h⟩
theorem YJ (Z:PE X e te)(B:PA X es t)(hs:QH (e::es) X.env=(false,eval e X.env)::QH es X.env:=by rfl):PA X (e::es) (Xu te t):=by
 intro pos pins s σ H Q I h
 rw [hs]
 show Qp _ _ (spliced ((false,eval e X.env)::Jm pos (QH es X.env))) _ _ s
 refine JX (Zw (Z pins s σ H _ I h) fun u s1 Y=>?_)
 obtain ⟨x,H1,z,r1,J⟩:=Y
 exact Zw (B pos pins s1 σ H1 _ z J) fun us s2 ⟨xs,H2,D,W,q2⟩=>⟨x::xs,H2,D,.cons r1 W,q2⟩
def tTup (t:TA):TE:=fun σ H Q=>t σ H fun xs H1=>xs.length<=Qi/\∀ p,H1 p=none->Q (.ref p) (upd H1 p (.tup xs))
def tLst (t:TA):TE:=fun σ H Q=>t σ H fun xs H1=>xs.length<=Qi/\∀ p,H1 p=none->Q (.ref p) (upd H1 p (.lst xs))
theorem YQ {x1}(h:PA X es t):PE X (.Tuple es x1 pos) (tTup t):=by
 intro pins s σ H Q I W
 refine OA (Zw (h pos pins s σ H _ I W) fun us s1 D=>?_)
 obtain ⟨xs,H1,B,r,z,q⟩:=D
 refine ⟨by rw [<- r.length];exact z,?_⟩
 have J:H1 s1.heap.objs.size=none:=B.hok.fresh (Qe _)
 refine ⟨.ref s1.heap.objs.size,upd H1 s1.heap.objs.size (.tup xs),B.laid (t':=s1.toks) (fun b u e=>Qc _ e) (Qe _) ?_,rfl,q _ J⟩
 exact ⟨z,us,r,⟨_,Qk _ rfl,rfl,_,rfl⟩⟩
theorem Yh (h:PA X es t):PE X (.List es pos) (tLst t):=by
 intro pins s σ H Q I W
 refine wpAny_List_spliced (Zw (h pos pins s σ H _ I W) fun us s1 D=>?_)
 obtain ⟨xs,H1,B,r,z,q⟩:=D
 refine ⟨by rw [<- r.length];exact z,?_⟩
 have J:H1 s1.heap.objs.size=none:=B.hok.fresh (Qe _)
 refine ⟨.ref s1.heap.objs.size,upd H1 s1.heap.objs.size (.lst xs),B.laid (t':=s1.toks) (fun b u e=>Qc _ e) (Qe _) ?_,rfl,q _ J⟩
 exact ⟨z,us,0,r,Qk _ rfl⟩
end
abbrev Sp:=List V->Hp->VK->XK->Prop
abbrev UR:=List Env->Hp->Qf->XK->Qb->Qf->Prop
structure Env0 (P:Ql)(w:Qs)(K:Qa)(mg:Str->Option Qb)(base:Heap)(A:QL)(outer:List Env)(s:Qf)(H:Hp):Prop where
 frames:A.frames=some outer
 mod:Mod K mg base
 bs:∀ b o,base.get? b=some o->s.heap.get? b=some o/\H b=none
 bsz:base.objs.size<=s.heap.objs.size
 funs:s.heap.FunFrames base outer
 frf:∀ b∈VZ outer,H b=none
 hok:HOk P w H s.heap
 bare:Sm s.gens
def CE (outer:List Env)(P:Ql)(w:Qs)(H:Hp)(s:Qf)(Q:VK)(u:Qb)(s':Qf):Prop :=
 ∃ v H',s'.os=s.os/\Sm s'.gens/\Un (VZ outer) [] H H' s.heap s'.heap/\HOk P w H' s'.heap/\RelV v u/\Q v H'
def CR (CX:UR)(outer:List Env)(P:Ql)(w:Qs)(H:Hp)(s:Qf)(Q:VK)(E:XK)(r:OU)(s':Qf):Prop :=
 match r with
 | .ok (.ret u)=>CE outer P w H s Q u s'
 | .ok _=>False
 | .error e=>CX outer H s E e s'
structure FnOk (P:Ql)(w:Qs)(K:Qa)(mg:Str->Option Qb)(base:Heap)(CX:UR)(k:Nat)(f:Addr)(fd:Qm)(ps:List Str)(sp:Sp):Prop where
 len:∀ vs H Q E,sp vs H Q E->vs.length=ps.length
 run:∀ (A:QL) (outer:List Env) (s:Qf) (H:Hp) (args:Args) (us:List Qb) (vs:List V) (Q:VK) (E:XK),Room k A->Env0 P w K mg base A outer s H->Ov s fd args (ps.zip us)->Vals vs us->sp vs H Q E ->
  JN (Qt P w) A (.call (.ref f) args) (CR CX outer P w H s Q E) s
theorem FnOk.mono {P:Ql}{w:Qs}{K:Qa}{mg:Str->Option Qb}{base:Heap}{CX:UR}{j k:Nat}{f:Addr}{fd:Qm}{ps:List Str}{sp:Sp}(F:FnOk P w K mg base CX j f fd ps sp)(h:j<=k) :
 FnOk P w K mg base CX k f fd ps sp:=⟨F.len,fun A outer s H args us vs Q E z=>F.run A outer s H args us vs Q E (z.mono h)⟩
theorem Env0.make {P:Ql}{w:Qs}{K:Qa}{mg:Str->Option Qb}{base:Heap}{A:QL}{outer:List Env}{s:Qf}{H:Hp}(e:Env0 P w K mg base A outer s H)(C:Addr)(us:List Qb)(z:List (Str×Qb)) :
 Env0 P w K mg base (A.under (.builtin "type.__call__" ⟨.ref C::us,z⟩)) outer s H:=⟨by first | exact e.frames | (simpa [Rq,Code.envs,NC,pushEnvs] using e.frames),e.mod,e.bs,e.bsz,e.funs,e.frf,e.hok,e.bare⟩
section
variable {X:Cx}{pins:List (Addr×Obj)}{σ:St}{H:Hp}{s s':Qf}
theorem Inv.env0 (I:Inv X pins σ H s):Env0 X.prog X.w X.K X.mg X.base X.A X.stack s H :=
 ⟨I.ok.frames,I.ok.mod,I.bs,Qr I.ok.bsz I.sz,I.stack,I.stkFree,I.hok,I.bare⟩
theorem Inv.after (I:Inv X pins σ H s)(h:CE X.stack X.prog X.w H s Q u s'):EP X pins σ Q u s':=by
 obtain ⟨v,H',os,B,un,J,r,q⟩:=h
 obtain ⟨W,g,d,t,D⟩:=s'
 obtain rfl:D=s.os:=os
 exact ⟨v,H',I.call (h':=W) (g':=g) (d':=d) (t':=t) (ch:=[]) un J B (fun b z=>absurd z (by simp)),r,q⟩
end
def ZhW (sp:Sp)(dvs:List V)(E:XK)(t:TA):TE:=fun σ H Q=>t σ H fun vs H1=>sp (vs++dvs) H1 Q E
inductive ZgG (C:Addr)(m:Str)(sp:Sp)(dvs:List V)(E:XK)(t:TA)(σ:St)(Q:VK)(x:V)(H1:Hp):Prop
 | mk (a dx fs:_):x=.ref a->H1 a=some (.ins C dx fs)->fs.lookup m=none->(t σ H1 fun vs H2=>sp (x::(vs++dvs)) H2 Q E)->ZgG C m sp dvs E t σ Q x H1
def Zem (C:Addr)(m:Str)(sp:Sp)(dvs:List V)(E:XK)(ta:TE)(t:TA):TE:=fun σ H Q=>ta σ H fun x H1=>ZgG C m sp dvs E t σ Q x H1
def Zmj (C:Addr)(sp:Sp)(dvs:List V)(E:XK)(t:TA):TE:=fun σ H Q=>t σ H fun vs H1=>∀ x dx,H1 x=none->H1 dx=none->dx≠x ->
 sp (.ref x::(vs++dvs)) (upd (upd H1 dx (.own x)) x (.ins C dx [])) (fun v H2=>v=.non/\Q (.ref x) H2) E
def Binds (K:Qa)(fd:Qm)(ps:List Str)(ds:List Qb):Prop :=
 ∀ (s:Qf) (us:List Qb),K.In s.heap->(us++ds).length=ps.length->Ov s fd ⟨us,[]⟩ (ps.zip (us++ds))
theorem Binds.all {K:Qa}{fd:Qm}{ps:List Str}(h:∀ us:List Qb,us.length=ps.length->bindArgs fd ⟨us,[]⟩=pure (ps.zip us)):Binds K fd ps []:=fun s us _ z=>by
 rw [MG] at z ⊢
 exact .of_eq (h us z)
def Uj (CX:UR)(X:Cx)(E:XK):Prop:=∀(pins:List (Addr×Obj))(σ:St)(H:Hp)(s:Qf)(e:Qb)(s':Qf),Inv X pins σ H s->CX X.stack H s E e s'->X.xe e s'
section
variable {X:Cx}{CX:UR}{k:Nat}{f C:Addr}{fd:Qm}{ps:List Str}{sp:Sp}{dvs:List V}{ds:List Qb}{E:XK}{x m:Str}{p pos apos:Pos}{e o:Expr}{es:List Expr}{ta:TE}{t:TA}
theorem Zfp {us:List Qb}(F:FnOk X.prog X.w X.K X.mg X.base CX k f fd ps sp)(J:Room k X.A)(Z:Binds X.K fd ps ds)(Y:Vals dvs ds)(W:Uj CX X E)(I:Inv X pins σ H s)(r:Vals vs us)(h:sp (vs++dvs) H Q E):Qp (Qt X.prog X.w) X.A (call (.ref f) us) (EP X pins σ Q) X.xe s:=by
 have B:Vals (vs++dvs) (us++ds):=r.append Y
 have D:(us++ds).length=ps.length:=by rw [<- B.length];exact F.len _ _ _ _ h
 refine Rr (GV (F.run X.A X.stack s H ⟨us,[]⟩ (us++ds) (vs++dvs) Q E J I.env0 (Z s us I.kIn D) B h) fun r s' z=>?_)
 cases r with
 | error e=>exact W pins σ H s e s' I z
 | ok fl =>
  cases fl with
  | ret u=>exact I.after z
  | next=>exact GE z
  | brk=>exact GE z
  | cont=>exact GE z
theorem Zne (F:FnOk X.prog X.w X.K X.mg X.base CX k f fd ps sp)(Z:Room k X.A)(J:Gl X x)(hm:X.mg x=some (.ref f))(Y:Jn X.K (.ref f)=true)(hb:Binds X.K fd ps ds)(hd:Vals dvs ds)(hx:Uj CX X E)
 (ha:PA X (e::es) t) (B:(x == ("__debug__":Str))=false:=by decide) (W:QH (e::es) X.env=(false,eval e X.env)::QH es X.env:=by rfl) (z:(Jm pos (QH es X.env)).any (·.1)=false:=by rfl) :
 PE X (.Call (.Name x p) (e::es) [] pos) (ZhW sp dvs E t):=by
 intro pins s σ H Q I h
 refine Gk (ZcL I J hm ?_ B)
 refine OV (h₀:=X.base) I.ok.mod.kin Y (Zw (ha pos pins s σ H _ I h) fun us s1 zz=>?_) W z
 obtain ⟨vs,H1,D,r,q⟩:=zz
 refine ⟨D.kIn,?_⟩
 exact Zfp F Z hb hd hx D r q
theorem Znh (he:PE X o ta)(c:Cls X.K C)(Z:Vi X.K C m f)(F:FnOk X.prog X.w X.K X.mg X.base CX k f fd ps sp)(hr:Room k X.A)(hb:Binds X.K fd ps ds)(hd:Vals dvs ds)(hx:Uj CX X E)(ha:PA X (e::es) t)(B:QH (e::es) X.env=(false,eval e X.env)::QH es X.env:=by rfl)(z:(Jm pos (QH es X.env)).any (·.1)=false:=by rfl)(ht:eval (.Call (.Attribute o m apos) (e::es) [] pos) X.env=(do
  let Y <- eval o X.env
  Ro apos.atName
  let (f,first) <- Ph [Y] (SZ Y m pl)
  Oi pos f first (Jm pos (QH (e::es) X.env)) (Pm pos (GW [] X.env))):=by rfl):
 PE X (.Call (.Attribute o m apos) (e::es) [] pos) (Zem C m sp dvs E ta t):=by
 intro pins s σ H Q I h
 refine RU (pl:=pl) (Zw (he pins s σ H _ I h) fun u s1 D=>?_) ht
 obtain ⟨x,H1,J,rx,a,dx,fs,ex,ea,l,q⟩:=D
 subst ex
 obtain rfl:u=QE a:=rx
 refine ZbV J ea c Z l ?_
 refine OV (first:=[.ref a]) (h₀:=X.base) I.ok.mod.kin Z.kp (Zw (ha pos pins s1 σ H1 _ J q) fun us s2 D=>?_) B z
 obtain ⟨vs,H2,W,r,q2⟩:=D
 refine ⟨W.kIn,?_⟩
 exact Zfp (us:=.ref a::us) (vs:=.ref a::vs) F hr hb hd hx W (.cons rfl r) q2
theorem ZkR (J:PE X o ta)(c:Cls X.K C)(D:Vi X.K C m f)(F:FnOk X.prog X.w X.K X.mg X.base CX k f fd ps sp)(W:Room k X.A)(hb:Binds X.K fd ps ds)(hd:Vals dvs ds)(hx:Uj CX X E)(ht:eval (.Call (.Attribute o m apos) [] [] pos) X.env=(do
  let B <- eval o X.env
  Ro apos.atName
  let (f,first) <- Ph [B] (SZ B m pl)
  Oi pos f first (Jm pos (QH [] X.env)) (Pm pos (GW [] X.env))):=by rfl):
 PE X (.Call (.Attribute o m apos) [] [] pos) (Zem C m sp dvs E ta Xr):=by
 intro pins s σ H Q I h
 refine RU (pl:=pl) (Zw (J pins s σ H _ I h) fun u s1 Z=>?_) ht
 obtain ⟨x,H1,z,Y,a,dx,fs,ex,ea,l,q⟩:=Z
 subst ex
 obtain rfl:u=QE a:=Y
 refine ZbV z ea c D l ?_
 exact OB (first:=[.ref a]) z.kIn D.kp (Zfp (us:=[.ref a]) (vs:=[.ref a]) F W hb hd hx z (.cons rfl .nil) q)
structure Mk (K:Qa)(C f:Addr):Prop where
 makes:RI K C=true
 init:QR K (.ref C) "__init__"=some (some (.ref f))
 fn:Ny K (.ref f)=true
 kp:Jn K (.ref C)=true
theorem Zls {us:List Qb}(M:Mk X.K C f)(F:FnOk X.prog X.w X.K X.mg X.base CX k f fd ps sp)(hr:Room (k+1) X.A)(hb:Binds X.K fd ps ds)(hd:Vals dvs ds)(hx:Uj CX X E)(I:Inv X pins σ H s)(r:Vals vs us)(h:∀ x dx,H x=none->H dx=none->dx≠x->sp (.ref x::(vs++dvs)) (upd (upd H dx (.own x)) x (.ins C dx [])) (fun v H2=>v=.non/\Q (.ref x) H2) E):
 Qp (Qt X.prog X.w) X.A (call (.ref C) us) (EP X pins σ Q) X.xe s:=by
 have J:=h (s.heap.objs.size+1) s.heap.objs.size (I.hok.fresh (Gh _)) (I.hok.fresh (Qe _)) (Qn (GN _))
 have B:=Inv.made (C:=C) I
 have D:Vals (V.ref (s.heap.objs.size+1)::(vs++dvs)) (QE (s.heap.objs.size+1)::(us++ds)):=.cons rfl (r.append hd)
 have Z:(QE (s.heap.objs.size+1)::us++ds).length=ps.length:=by
  have e:=D.length
  rw [F.len _ _ _ _ J] at e
  exact e.symm
 refine Rr (Zkt (f:=f) I.kIn M.makes M.init (beq_iff_eq.mp M.fn) (GV (F.run _ X.stack _ _ ⟨QE (s.heap.objs.size+1)::us,[]⟩ (QE (s.heap.objs.size+1)::(us++ds)) _ _ E (hr.make C us [])
  (B.env0.make C us []) (hb _ (QE (s.heap.objs.size+1)::us) B.kIn Z) D J) fun r s' z=>?_))
 cases r with
 | error e=>exact hx pins σ _ _ e s' B z
 | ok fl =>
  cases fl with
  | ret u =>
   obtain ⟨v,H',I3,rv,W,Y⟩:=B.after z
   subst W
   exact ⟨rv,⟨V.ref (s.heap.objs.size+1),H',I3,rfl,Y⟩⟩
  | next=>exact GE z
  | brk=>exact GE z
  | cont=>exact GE z
theorem ZkQ (M:Mk X.K C f)(F:FnOk X.prog X.w X.K X.mg X.base CX k f fd ps sp)(D:Room (k+1) X.A)(B:Gl X x)(Y:X.mg x=some (.ref C))(Z:Binds X.K fd ps ds)(W:Vals dvs ds)(J:Uj CX X E)
 (z:(x == ("__debug__":Str))=false:=by decide):PE X (.Call (.Name x p) [] [] pos) (Zmj C sp dvs E Xr):=by
 intro pins s σ H Q I h
 refine Gk (ZcL I B Y ?_ z)
 exact OB I.kIn M.kp (Zls (us:=[]) M F D Z W J I .nil h)
end
def PK (X:Cx)(kws:List Tx)(t:TA):Prop :=
 ∀ (pos:Pos) (pins:List (Addr×Obj)) (s:Qf) (σ:St) (H:Hp) (Q:List V->Hp->Prop),Inv X pins σ H s->t σ H Q->Qp (Qt X.prog X.w) X.A (evalAll ((Pm pos (GW kws X.env)).map (·.2))) (AP X pins σ Q) X.xe s
section
variable {X:Cx}{CX:UR}{k:Nat}{f C:Addr}{fd:Qm}{ps ks:List Str}{sp:Sp}{E:XK}{x m:Str}{p pos apos kpos:Pos}{e o:Expr}{es:List Expr}{kws:List Tx}{te ta:TE}{t tk:TA}{nm:Option Str}
theorem ZoK:PK X [] Xr:=fun _ _ _ _ H Q I h=>ND ⟨[],H,I,.nil,h⟩
theorem Znj (Z:PE X e te)(B:PK X kws t):PK X (⟨nm,e,kpos⟩::kws) (Xu te t):=by
 intro pos pins s σ H Q I h
 show Qp _ _ (evalAll ((do let v <- eval e X.env;Ro pos;pure v)::(Pm pos (GW kws X.env)).map (·.2))) _ _ s
 refine wpAny_evalAll_cons (Qd (Zw (Z pins s σ H _ I h) fun u s1 Y=>?_))
 obtain ⟨x,H1,z,r1,J⟩:=Y
 refine Qd (JC (Qh ?_))
 exact Zw (B pos pins s1 σ H1 _ z J) fun us s2 ⟨xs,H2,D,W,q2⟩=>⟨x::xs,H2,D,.cons r1 W,q2⟩
variable {g:List Qb->List Qb->List Qb}{gV:List V->List V->List V}
end
structure Zp (N P:List Str)(sc:Scope):Prop where
 kind:sc.kind=.function:=by rfl
 co:sc.isCoroutine=false:=by rfl
 gen:sc.isGenerator=false:=by rfl
 nd:N.Nodup:=by decide +kernel
 pre:N.take P.length=P:=by rfl
 par:∀ x∈P,sc.names.lookup x=some .local\/sc.names.lookup x=some .cell:=by decide +kernel
 nofree:∀ y∈sc.names,y.2≠.free:=by decide +kernel
theorem Zdn {kindOf:Str->Option Te}{x:Str}:∀{binds:List (Str×Qb)}{m:Str->Option Qb},(∀ v,(x,v) ∉ binds)->Mz kindOf binds m x=m x
 | [],_,_=>rfl
 | (n,v)::r,m,h=>by
  unfold Mz
  rw [Zdn fun w z=>h w (mem_cons_of_mem _ z)]
  split
  ·have:x≠n:=by rintro rfl;exact h v mem_cons_self
   simp [this]
  ·rfl
theorem Zdl {kindOf:Str->Option Te}{x:Str}:∀{binds:List (Str×Qb)}{m:Str->Option Qb},(∀ v,(x,v) ∉ binds)->bindC kindOf binds m x=m x
 | [],_,_=>rfl
 | (n,v)::r,m,h=>by
  unfold bindC
  rw [Zdl fun w z=>h w (mem_cons_of_mem _ z)]
  split
  ·rfl
  ·have:x≠n:=by rintro rfl;exact h v mem_cons_self
   simp [this]
theorem Zdm {kindOf:Str->Option Te}{x:Str}{v:Qb}:∀{P:List Str}{vs:List Qb}{i:Nat}{m:Str->Option Qb},P.Nodup->P[i]?=some x->vs[i]?=some v->kindOf x=some .local ->
 Mz kindOf (P.zip vs) m x=some v
 | [],_,_,_,_,h,_,_=>by simp at h
 | _::_,[],_,_,_,_,h,_=>by simp at h
 | p::P,w::vs,0,m,nd,h1,h2,hk=>by
  simp at h1 h2;subst h1;subst h2
  show Mz kindOf ((p,w)::P.zip vs) m p=_
  unfold Mz
  rw [Zdn fun v z=>(nodup_cons.mp nd).1 (of_mem_zip z).1,if_pos hk]
  simp
 | p::P,w::vs,i+1,m,nd,h1,h2,hk=>by
  show Mz kindOf ((p,w)::P.zip vs) m x=_
  unfold Mz
  exact Zdm (i:=i) (nodup_cons.mp nd).2 (by simpa using h1) (by simpa using h2) hk
theorem Zdk {kindOf:Str->Option Te}{x:Str}{v:Qb}:∀{P:List Str}{vs:List Qb}{i:Nat}{m:Str->Option Qb},P.Nodup->P[i]?=some x->vs[i]?=some v->kindOf x≠some .local ->
 bindC kindOf (P.zip vs) m x=some v
 | [],_,_,_,_,h,_,_=>by simp at h
 | _::_,[],_,_,_,_,h,_=>by simp at h
 | p::P,w::vs,0,m,nd,h1,h2,hk=>by
  simp at h1 h2;subst h1;subst h2
  show bindC kindOf ((p,w)::P.zip vs) m p=_
  unfold bindC
  rw [Zdl fun v z=>(nodup_cons.mp nd).1 (of_mem_zip z).1,if_neg hk]
  simp
 | p::P,w::vs,i+1,m,nd,h1,h2,hk=>by
  show bindC kindOf ((p,w)::P.zip vs) m x=_
  unfold bindC
  exact Zdk (i:=i) (nodup_cons.mp nd).2 (by simpa using h1) (by simpa using h2) hk
def start (N:List Str)(vs:List V):St:=vs.map some++QJ (N.length - vs.length) none
def ZR (CX:UR)(P:Ql)(w:Qs)(K:Qa)(mg:Str->Option Qb)(base:Heap)(N:List Str)(qual:Str)(scope:Scope)(f:Addr)(cd:Qb)(A:QL)(outer:List Env)(s:Qf)(H:Hp)(E:XK):Cx where
 prog:=P
 w:=w
 K:=K
 mg:=mg
 base:=base
 A:=A.deeper (Rt qual scope s.heap.objs.size f cd)
 N:=N
 s₀:=s
 H₀:=H
 env:=Rt qual scope s.heap.objs.size f cd
 outer:=outer
 stack:=Rt qual scope s.heap.objs.size f cd::outer
 ex:=[]
 calm:=true
 fn:=fun _=>true
 pn:=[]
 xe:=fun e s'=>Qp (Qt P w) (A.deeper (Rt qual scope s.heap.objs.size f cd)) (leaving (Rt qual scope s.heap.objs.size f cd) e) (fun _ s''=>CX outer H s E e s'') (fun e' s''=>CX outer H s E e' s'') s'
theorem ZeA {sc:Scope}{n:Nat}{x:Str}(h:sc.names.lookup x=some .cell):∃ c,(cellsFrom n sc.names []).lookup x=some c:=by
 have q:=Ru sc.names n [] (.inl h)
 exact SI.mp q
theorem ZiA {CX:UR}{P:Ql}{w:Qs}{K:Qa}{mg:Str->Option Qb}{base:Heap}{N ps:List Str}{qual:Str}{scope:Scope}{f:Addr}{J:Qb}{A:QL}{outer:List Env}{s s1:Qf}{H:Hp}{E:XK}{us:List Qb}{vs:List V}
 (S:Zp N ps scope) (hd:A.handled=none) (e0:Env0 P w K mg base A outer s H) (hl:vs.length=ps.length) (r:Vals vs us)
 (x:InCallC s s.heap.objs.size (Mz (Rt qual scope s.heap.objs.size f J).kindOf (ps.zip us) fun _=>none) (cellsFrom (s.heap.objs.size+1) scope.names []) (bindC (Rt qual scope s.heap.objs.size f J).kindOf (ps.zip us) fun _=>none) s1) :
 Inv (ZR CX P w K mg base N qual scope f J A outer s H E) [] (start N vs) H s1:=by
 have hpl:ps.length<=N.length:=by have:=congrArg GX S.pre;rw [length_take] at this;omega
 obtain ⟨h1,tk,rfl,Y⟩:=x.done
 have B:∀ b:Addr,b ∉ (ZR CX P w K mg base N qual scope f J A outer s H E).ex:=fun b z=>absurd (show b∈([]:List Addr) from z) (by simp)
 refine ⟨⟨e0.mod,S.kind,rfl,rfl,Qe _,fun y z c h1 h2=>?_,fun y hy=>?_,fun y c _ h=>?_,fun _=>hd,Around.frames_deeper e0.frames,.inr ⟨rfl,rfl⟩,fun b z=>absurd z (B b),e0.bs,e0.bsz,fun b _ _=>B b,fun b z=>absurd z (B b),e0.funs,e0.frf⟩,
  rfl,e0.bare,Un.kept Y,⟨_,x.toInCall.ns,fun i y v h1 h2 h3=>?_⟩,fun y c h=>⟨_,x.cell y c h⟩,e0.hok.fresh (Qe _),fun y c h=>?_,fun p hp=>absurd (show p∈([]:List (Addr×Obj)) from hp) (by simp),e0.hok.kept Y,?_⟩
 ·exact name_of_addr x.apart (Jj h1) (Jj h2)
 ·have hy:scope.names.lookup y=some .cell\/scope.names.lookup y=some .free:=hy
  rcases hy with hy | hy
  ·exact ZeA hy
  ·exact absurd rfl (S.nofree _ (Jj hy))
 ·exact GG (x.above y c (Jj h))
 ·have hi:i < vs.length:=by
   unfold start at h2
   by_cases hi:i < vs.length
   ·exact hi
   ·rw [getElem?_append_right (by simpa using hi)] at h2
    rw [List.getElem?_replicate] at h2
    split at h2<;>cases h2
  have ha:vs[i]?=some v:=by
   unfold start at h2
   rw [getElem?_append_left (by simpa using hi),getElem?_map] at h2
   cases e:vs[i]? with
   | none=>rw [e] at h2;cases h2
   | some a=>rw [e] at h2;cases h2;rfl
  obtain ⟨u,W,Z⟩:=r.get ha
  have hp:ps[i]?=some y:=by
   rw [<- S.pre,List.getElem?_take_of_lt (by omega)];exact h1
  have D:ps.Nodup:=by rw [<- S.pre];exact S.nd.sublist (Ss _ _)
  refine ⟨u,Z,?_⟩
  rcases S.par y (mem_of_getElem? hp) with k | k
  ·exact .inl ⟨k,Zdm D hp W k⟩
  ·obtain ⟨c,e⟩:=ZeA (n:=s.heap.objs.size+1) k
   refine .inr ⟨.inl k,c,e,?_⟩
   have q:=x.cell y c e
   rw [Zdk D hp W (by show scope.names.lookup y≠_;rw [k];decide)] at q
   exact q
 ·exact e0.hok.fresh (GG (x.above y c (Jj h)))
 ·unfold start
  show _=N.length
  rw [length_append,length_map,PL]
  omega
theorem ZlR {CX:UR}{P:Ql}{w:Qs}{K:Qa}{mg:Str->Option Qb}{base:Heap}{k:Nat}{f:Addr}{name qual:Str}{B:Arguments}{body:List Stmt}{scope:Scope}{dV kV doc pm z ct oc:Qb}{an od:Option Addr}
 {osl:Array (Option Qb)} {N ps:List Str} {sp:Sp} (lk:K.lookup f=some ⟨oc,od,.func (Po name qual B body scope dV kV doc pm an z ct),osl⟩) (hcd:Oj K z qual=true) (S:Zp N ps scope)
 (len:∀ vs H Q E,sp vs H Q E->vs.length=ps.length)
 (Y:∀ (A:QL) (outer:List Env) (s:Qf) (H:Hp) (vs:List V) (Q:VK) (E:XK),Room k (A.deeper (Rt qual scope s.heap.objs.size f z))->sp vs H Q E ->
  ∃ t,PSs (ZR CX P w K mg base N qual scope f z A outer s H E) body t/\t { nx:=fun _ H'=>Q .non H',rt:=Q } (start N vs) H) :
 FnOk P w K mg base CX (k+1) f (Po name qual B body scope dV kV doc pm an z ct) ps sp:=by
 refine ⟨len,fun A outer s H args us vs Q E hr e0 hb r hsp=>?_⟩
 have hl:=len _ _ _ _ hsp
 have KX:K.In s.heap:=e0.mod.kin.keeps fun b o e=>(e0.bs b o e).1
 have lim:s.heap.NoLimit:=e0.mod.nolimit.keeps fun b o e=>(e0.bs b o e).1
 have Z:∀ y∈ps.zip us,scope.names.lookup y.1=some .local\/(scope.names.lookup y.1=some .cell/\((cellsFrom (s.heap.objs.size+1) scope.names []).lookup y.1).isSome=true):=fun ⟨n,v⟩ hy=>by
  rcases S.par n (of_mem_zip hy).1 with q | q
  ·exact .inl q
  ·exact .inr ⟨q,Ru _ _ _ (.inl q)⟩
 refine codeAny_call_function hr.depth (KX _ _ lk) rfl S.co S.gen rfl (PySem.W.codeRec_of KX hcd) (hb _ _ _ _ ?_)
 refine TV S.kind Z fun env he s1 x=>?_
 subst he
 refine ⟨lim.keeps x.toInCall.keep,codeAny_func ?_⟩
 obtain ⟨t,ht,hq⟩:=Y A outer s H vs Q E (hr.deeper _) hsp
 have I:Inv (ZR CX P w K mg base N qual scope f z A outer s H E) [] (start N vs) H s1:=ZiA S hr.hd e0 hl r x
 refine Gj (ht [] s1 (start N vs) H _ I hq) (fun fl s' hs=>?_) fun e s' hs=>hs
 have fin:∀ {D:St} {H':Hp} {v:V} {u:Qb},Inv (ZR CX P w K mg base N qual scope f z A outer s H E) [] D H' s'->RelV v u->Q v H'->CE outer P w H s Q u s' :=
  fun {D H' v u} J rv q=>⟨v,H',J.os,J.bare,J.base,J.hok,rv,q⟩
 cases fl with
 | ret u =>
  obtain ⟨v,D,H',J,rv,q⟩:=hs
  exact fin J rv q
 | next =>
  obtain ⟨D,H',J,q⟩:=hs
  exact fin (v:=V.non) (u:=Jc) J rfl q
 | brk =>
  obtain ⟨_,_,_,q⟩:=hs
  exact GE q
 | cont =>
  obtain ⟨_,_,_,q⟩:=hs
  exact GE q
section
variable {X:Cx}{x:Str}{p pos:Pos}{e:Expr}{es:List Expr}{t:TA}{id T:String}{r:List V->Hp->VK->Prop}
def tCB (r:List V->Hp->VK->Prop)(t:TA):TE:=fun σ H Q=>t σ H fun vs H1=>r vs H1 Q
theorem Zz (Z:Yv X (.builtin id) r)(D:Gl X x)(hm:X.mg x=none)(Y:Pf x=some (.builtin id))(ha:PA X (e::es) t)(hn:x≠"__name__":=by decide)(B:(x == ("__debug__":Str))=false:=by decide)
 (J:QH (e::es) X.env=(false,eval e X.env)::QH es X.env:=by rfl) (z:(Jm pos (QH es X.env)).any (·.1)=false:=by rfl):PE X (.Call (.Name x p) (e::es) [] pos) (tCB r t):=by
 intro pins s σ H Q I h
 refine Gk (WT I D hm Y ?_ hn B)
 exact Mh (Zw (ha pos pins s σ H _ I h) fun us s1 ⟨vs,H1,W,r1,q1⟩=>Z pins s1 σ H1 vs us Q W r1 q1) J z
theorem Yk (Z:Yv X (.type T) r)(D:Gl X x)(hm:X.mg x=none)(Y:Pf x=some (.type T))(ha:PA X (e::es) t)(hn:x≠"__name__":=by decide)(B:(x == ("__debug__":Str))=false:=by decide)
 (J:QH (e::es) X.env=(false,eval e X.env)::QH es X.env:=by rfl) (z:(Jm pos (QH es X.env)).any (·.1)=false:=by rfl):PE X (.Call (.Name x p) (e::es) [] pos) (tCB r t):=by
 intro pins s σ H Q I h
 refine Gk (WT I D hm Y ?_ hn B)
 exact GJ (Zw (ha pos pins s σ H _ I h) fun us s1 ⟨vs,H1,W,r1,q1⟩=>Z pins s1 σ H1 vs us Q W r1 q1) J z
end
end L2
namespace HT
open PySem PyProof.Rows
section
open PySem.SeqAt
open PySem.AutoSeq1 (wpAny_loadPart')
open PySem.MeetsSeq PySem.MeetsSeq2 PySem.MeetsSeq3
end
section
variable {prog:Ql}{w:Qs}{A:QL}{E:Qb->Qf->Prop}{s:Qf}
def sIx (n d:Nat):Option Int->Nat
 | none=>d
 | some v=>if v < 0 then (v+(n:Int)).toNat else min v.toNat n
theorem sIx_none (n d:Nat):sIx n d none=d:=rfl
theorem sIx_nat (n d k:Nat):sIx n d (some (k:Int))=min k n:=by
 show (if (k:Int) < 0 then ((k:Int)+(n:Int)).toNat else min (k:Int).toNat n)=min k n
 rw [if_neg (by omega),Gp]
theorem sIx_le (n d:Nat)(B:d<=n)(o:Option Int):sIx n d o<=n:=by
 cases o with
 | none=>exact B
 | some v =>
  show (if v < 0 then (v+(n:Int)).toNat else min v.toNat n)<=n
  by_cases z:v < 0
  ·rw [if_pos z];omega
  ·rw [if_neg z];exact Nat.min_le_right _ _
end
end HT
namespace L2
open PySem PySem.Spec PyProof.Rows
abbrev TO:=St->Hp->(Option Int->Hp->Prop)->Prop
def PO (X:Cx)(e:Option Expr)(t:TO):Prop :=
 ∀ (pins:List (Addr×Obj)) (s:Qf) (σ:St) (H:Hp) (Q:Option Int->Hp->Prop),Inv X pins σ H s->t σ H Q ->
  Qp (Qt X.prog X.w) X.A (evalPart e X.env) (fun u s'=>∃ o H',Inv X pins σ H' s'/\IsPart u o/\Q o H') X.xe s
def Zny:TO:=fun _ H Q=>Q none H
inductive ZgK (Q:Option Int->Hp->Prop)(x:V)(H1:Hp):Prop
 | mk (i:_):x=.int i->Q (some i) H1->ZgK Q x H1
def Zqn (t:TE):TO:=fun σ H Q=>t σ H fun x H1=>ZgK Q x H1
section
variable {X:Cx}{e:Expr}{te:TE}{lo hi:Option Expr}{tl th:TO}{pos p2:Pos}
theorem Wj:PO X none Zny:=by
 intro pins s σ H Q I h
 rw [evalPart_none]
 exact Qh ⟨none,H,I,.none,h⟩
theorem WG (h:PE X e te):PO X (some e) (Zqn te):=by
 intro pins s σ H Q I B
 rw [evalPart_some]
 refine Zw (h pins s σ H _ I B) fun u s1 z=>?_
 obtain ⟨x,H1,D,r1,J⟩:=z
 obtain ⟨i,rfl,q⟩:=J
 obtain ⟨t,rfl⟩:=r1
 exact ⟨some i,H1,D,.int i t,q⟩
def SlR (X:Cx)(r:V->Option Int->Option Int->Hp->VK->Prop):Prop :=
 ∀ (pins:List (Addr×Obj)) (s:Qf) (σ:St) (H:Hp) (x:V) (v vl vu:Qb) (lo hi:Option Int) (sl:Addr) (Q:VK),Inv X pins σ H s->RelV x v->s.heap.IsSliceOf sl vl vu .none->IsPart vl lo->IsPart vu hi->r x lo hi H Q ->
  ∃ T id,OW (.type T) "__getitem__"=pure (some (.builtin id))/\s.TypeIs v T/\Qp (Qt X.prog X.w) X.A (NE v (.ref sl)) (EP X pins σ Q) X.xe s
def tSl (r:V->Option Int->Option Int->Hp->VK->Prop)(te:TE)(tl th:TO):TE:=fun σ H Q=>te σ H fun x H1=>tl σ H1 fun l H2=>th σ H2 fun u H3=>r x l u H3 Q
theorem WF (Z:SlR X r)(he:PE X e te)(hl:PO X lo tl)(hu:PO X hi th):PE X (.Subscript e (.Slice lo hi none p2) pos) (tSl r te tl th):=by
 intro pins s σ H Q I h
 refine Rv (Zw (he pins s σ H _ I h) fun v s1 B=>?_)
 obtain ⟨x,H1,I1,r1,q1⟩:=B
 refine wpAny_Slice (Zw (hl pins s1 σ H1 _ I1 q1) fun J s2 B=>?_)
 obtain ⟨l,H2,I2,pl,q2⟩:=B
 refine Zw (hu pins s2 σ H2 _ I2 q2) fun D z B=>?_
 obtain ⟨u,W,I3,pu,q3⟩:=B
 rw [evalPart_none]
 refine Qh ?_
 have Y:Inv X pins σ W { z with heap:=z.heap.push { cls:=.type "slice",data:=.fields #[J,D,.none] } }:=I3.kept (t':=z.toks) fun b ob q=>Qc _ q
 obtain ⟨T,id,hT,ht,hg⟩:=Z pins { z with heap:=z.heap.push { cls:=.type "slice",data:=.fields #[J,D,.none] } } σ W x v J D l u z.heap.objs.size Q Y r1 (OX ..) pl pu q3
 show Qp (Qt X.prog X.w) X.A (SJ e (.Slice lo hi none p2) v (.ref z.heap.objs.size)) (EP X pins σ Q) X.xe { z with heap:=z.heap.push { cls:=.type "slice",data:=.fields #[J,D,.none] } }
 exact tail_any (ops:=[.ref z.heap.objs.size,v]) ht hT hg (by with_unfolding_all rfl)
def VW (xs:List V)(lo hi:Option Int):List V:=(xs.drop (HT.sIx xs.length 0 lo)).take (HT.sIx xs.length xs.length hi - HT.sIx xs.length 0 lo)
theorem ZfN (xs:List V)(lo hi:Option Int):(VW xs lo hi).length<=xs.length:=by
 unfold VW
 rw [length_take,length_drop]
 omega
end
def WR (n:Nat)(i:Int):Option Nat:=if 0<=i then (if i < n then some i.toNat else none) else if -(n:Int)<=i then some (i+n).toNat else none
def Xd {α:Type}(xs:List α)(i:Int):Option α:=(WR xs.length i).bind fun j=>xs[j]?
theorem ZcK {n:Nat}{i:Int}{j:Nat}(h:WR n i=some j):seqIndex? i n=some j/\j < n/\-(n:Int)<=i/\i < n:=by
 unfold WR at h
 by_cases z:0<=i
 ·rw [if_pos z] at h
  by_cases h1:i < n
  ·rw [if_pos h1] at h
   have e:i.toNat=j:=Qo h
   exact ⟨by rw [MA z h1,e],by omega,by omega,h1⟩
  ·rw [if_neg h1] at h;cases h
 ·rw [if_neg z] at h
  by_cases h1:-(n:Int)<=i
  ·rw [if_pos h1] at h
   have e:(i+n).toNat=j:=Qo h
   exact ⟨by rw [NF (by omega) h1,e],by omega,h1,by omega⟩
  ·rw [if_neg h1] at h;cases h
theorem ZcC {z:Type}{xs:List z}{i:Int}{v:z}(h:Xd xs i=some v):∃ j,seqIndex? i xs.length=some j/\xs[j]?=some v/\j < xs.length/\-(xs.length:Int)<=i/\i < xs.length:=by
 unfold Xd at h
 cases e:WR xs.length i with
 | none=>rw [e] at h;cases h
 | some j =>
  rw [e] at h
  obtain ⟨h1,h2,D,B⟩:=ZcK e
  exact ⟨j,h1,h,h2,D,B⟩
theorem Zr {z:Type}{xs:List z}{j:Nat}{v:z}(h:xs[j]?=some v):Xd xs (j:Int)=some v:=by
 have hj:j < xs.length:=(Qg.mp h).1
 have e:WR xs.length (j:Int)=some j:=by
  unfold WR
  rw [if_pos (by omega),if_pos (by omega)];simp
 unfold Xd;rw [e];exact h
theorem ZjX {z:Type}(xs:List z)(v:z):Xd (xs++[v]) (-1)=some v:=by
 have B:(xs++[v]).length=xs.length+1:=by simp
 have e:WR (xs++[v]).length (-1)=some xs.length:=by
  unfold WR
  rw [B,if_neg (by decide),if_pos (by omega)]
  congr 1
  omega
 unfold Xd
 rw [e]
 show (xs++[v])[xs.length]?=some v
 simp
def Zmo (b:Expr):Prop:=∀ o i,Ol b false o i=operate [o,i] (NE o i)
def IxR (X:Cx)(r:R2):Prop :=
 ∀ (value slice:Expr) (pins:List (Addr×Obj)) (s:Qf) (σ:St) (H:Hp) (x y:V) (v u:Qb) (Q:VK),Inv X pins σ H s->RelV x v->RelV y u->r x y H Q ->
  Ol slice false v u=operate [v,u] (NE v u)->Qp (Qt X.prog X.w) X.A (SJ value slice v u) (EP X pins σ Q) X.xe s
def MtR (X:Cx)(id:String)(r:V->List V->Hp->VK->Prop):Prop :=
 ∀ (pins:List (Addr×Obj)) (s:Qf) (σ:St) (H:Hp) (x:V) (xs:List V) (v:Qb) (us:List Qb) (Q:VK),Inv X pins σ H s->RelV x v->Vals xs us->r x xs H Q ->
  Qp (Qt X.prog X.w) X.A (call (.builtin id) (v::us)) (EP X pins σ Q) X.xe s
section
variable {X:Cx}{a b:Expr}{ta tb:TE}{pos:Pos}
theorem Zo (z:IxR X r)(W:PE X a ta)(Z:PE X b tb)(Y:Zmo b):PE X (.Subscript a b pos) (tOp r ta tb):=by
 intro pins s σ H Q I h
 exact Rv (ZjZ W Z I h fun v u s2 x y H2 J D B q=>z a b pins s2 σ H2 x y v u Q J D B q (Y _ _))
inductive Zjp (K:Qa)(x y:V)(H:Hp)(Q:VK):Prop
 | mk (p xs i v:_):x=.ref p->y=.int i->SqL K H p xs->Xd xs i=some v->Q v H->Zjp K x y H Q
def rIxL (K:Qa):R2:=fun x y H Q=>Zjp K x y H Q
inductive Zjr (K:Qa)(x y:V)(H:Hp)(Q:VK):Prop
 | mk (p xs i v:_):x=.ref p->y=.int i->SqT K H p xs->Xd xs i=some v->Q v H->Zjr K x y H Q
def rIxT (K:Qa):R2:=fun x y H Q=>Zjr K x y H Q
inductive Zjq (x y:V)(H:Hp)(Q:VK):Prop
 | mk (z i c:_):x=.str z->y=.int i->z.length<=Qi->Xd z.cps.toList i=some c->Q (.str ⟨#[c]⟩) H->Zjq x y H Q
def rIxS :R2:=fun x y H Q=>Zjq x y H Q
theorem ZD:IxR X (rIxL X.K):=by
 intro value D pins s σ H x y v u Q I rx ry h hs
 obtain ⟨p,xs,i,z,rfl,rfl,hq,he,q⟩:=h
 cases rx
 obtain ⟨t,rfl⟩:=ry
 obtain ⟨J,r,pl,hz⟩:=I.list hq
 obtain ⟨j,h1,h2,h3,h4,h5⟩:=ZcC he
 obtain ⟨w,Z,W⟩:=r.get h2
 have hl:=r.length
 have hn:=Us
 have B:EP X pins σ Q w s:=⟨z,H,I,W,q⟩
 by_cases Y:0<=i
 ·have hj:i.toNat=j:=by
   rw [MA Y h5] at h1
   exact Qo h1
  exact item_listR pl.isList Y (by omega) (by rw [hj];simpa using Z) B hs
 ·have hj:(i+(J.toArray.size:Int)).toNat=j:=by
   rw [NF (by omega) h4] at h1
   rw [size_toArray,<- hl]
   exact Qo h1
  exact Pq (x:=w) pl.isList.typeIs Su.lookup
   (wpAny_getItem_list_neg (Q:=fun r s'=>r=w/\EP X pins σ Q r s') pl.isList (by omega) (by rw [size_toArray]<;>omega) (by omega) (by rw [hj];simpa using Z) ⟨rfl,B⟩) hs
theorem ZO:IxR X (rIxT X.K):=by
 intro value J pins s σ H x y v u Q I rx Z h hs
 obtain ⟨p,xs,i,z,rfl,rfl,hq,W,q⟩:=h
 cases rx
 obtain ⟨t,rfl⟩:=Z
 obtain ⟨its,r,pl,hz⟩:=I.tuple hq
 obtain ⟨j,h1,h2,h3,h4,h5⟩:=ZcC W
 obtain ⟨w,ew,D⟩:=r.get h2
 have Y:=r.length
 have hn:=Us
 have B:EP X pins σ Q w s:=⟨z,H,I,D,q⟩
 exact Pq (x:=w) pl.typeIs OY.lookup
  (getItem_tuple (j:=j) (Q:=fun r s'=>r=w/\EP X pins σ Q r s') pl (by omega) (by omega) (by rw [size_toArray,<- Y];exact h1) (by simpa using ew) ⟨rfl,B⟩) hs
theorem WS:IxR X rIxS:=by
 intro value B pins s σ H x y v u Q I Z Y h hs
 obtain ⟨z,i,c,rfl,rfl,hz,D,q⟩:=h
 obtain ⟨t,rfl⟩:=Z
 obtain ⟨t',rfl⟩:=Y
 obtain ⟨j,h1,h2,h3,W,h5⟩:=ZcC D
 have J:z.cps.toList.length=z.length:=by simp [Str.length]
 rw [J] at h1 W h5
 have hn:=Us
 exact tail_any (OZ s z t) slot_str_getitem.lookup (getItem_str (c:=c) (by
  have e1:decide (i < -(2 ^ 63:Int))=false:=decide_eq_false (by omega)
  have e2:decide (i ≥ 2 ^ 63)=false:=decide_eq_false (by omega)
  rw [e1,e2,OJ]) (by rw [h1];simpa using h2) ⟨.str ⟨#[c]⟩,H,I.tok _,⟨_,rfl⟩,q⟩) hs
theorem Zhi (z:List Qb)(n j:Nat)(u:Qb):QC (·.setIfInBounds j u) { cls:=.type "list",data:=.seq z.toArray n }={ cls:=.type "list",data:=.seq (z.set j u).toArray n }:=by
 simp [QC]
theorem Inv.lst (I:Inv X pins σ H s)(h:H p=some (.lst xs)):
 ∃ (B:List Qb) (n:Nat),Vals xs B/\s.heap.get? p=some { cls:=.type "list",data:=.seq B.toArray n }/\xs.length<=sizeLine:=by
 obtain ⟨z,B,n,r,e⟩:=I.hok p _ h
 exact ⟨B,n,r,e,z⟩
theorem Inv.lstUpd {pins:List (Addr×Obj)}{σ:St}{H:Hp}{s:Qf}{p:Addr}{xs ys:List V}{z its':List Qb}{n B:Nat}{f:Obj->Obj}(I:Inv X pins σ H s)(h:H p=some (.lst xs))
 (W:s.heap.get? p=some { cls:=.type "list",data:=.seq z.toArray n }) (D:f { cls:=.type "list",data:=.seq z.toArray n }={ cls:=.type "list",data:=.seq its'.toArray B }) (r:Vals ys its') (hz:ys.length<=Qi) (t:Nat) :
 Inv X pins σ (upd H p (.lst ys)) { s with heap:=s.heap.update p f,toks:=t }:=by
 have e:(s.heap.update p f).get? p=some { cls:=.type "list",data:=.seq its'.toArray B }:=by
  rw [GQ f W (by rw [D]<;>rfl),D]
 refine I.write (x:=p) (e:=p) (by rw [h];trivial) (.inl rfl) (fun b u J q=>(Jw _ _ (Jv J)).trans q) ⟨_,e⟩ ?_
 exact ⟨hz,its',B,r,e⟩
inductive Zgw (o i v:V)(H:Hp)(Q:(Hp->Prop)):Prop
 | mk (p xs k j:_):o=.ref p->i=.int k->H p=some (.lst xs)->WR xs.length k=some j->Q (upd H p (.lst (xs.set j v)))->Zgw o i v H Q
def ZpL :V->V->V->Hp->(Hp->Prop)->Prop:=fun o i v H Q=>Zgw o i v H Q
theorem VF:PSet X ZpL:=by
 intro pins s σ H o i v ov iv u Q I ro ri rv h
 obtain ⟨p,xs,k,j,rfl,rfl,hp,hj,q⟩:=h
 cases ro
 obtain ⟨t,rfl⟩:=ri
 obtain ⟨z,n,r,J,hz⟩:=I.lst hp
 obtain ⟨h1,h2,h3,Y⟩:=ZcK hj
 have B:=r.length
 have hn:=Us
 have I':Inv X pins σ (upd H p (.lst (xs.set j v))) { s with heap:=s.heap.update p (QC (·.setIfInBounds j u)) } :=
  I.lstUpd hp J (Zhi z n j u) (r.set rv j) (by rw [length_set];exact hz) s.toks
 by_cases Z:0<=k
 ·have D:k.toNat=j:=by
   rw [MA Z Y] at h1
   exact Qo h1
  exact PySem.W.ki_setAt J Z (by omega) (by rw [size_toArray,<- B];exact Y) (by rw [D];exact ⟨_,I',q⟩)
 ·have D:(k+(z.toArray.size:Int)).toNat=j:=by
   rw [NF (by omega) h3] at h1
   rw [size_toArray,<- B]
   exact Qo h1
  exact PySem.W.ki_setBack J (by omega) (by rw [size_toArray,<- B];exact h3) (by omega) (by rw [D];exact ⟨_,I',q⟩)
theorem Zfs (lo hi:Option Int)(n:Nat):(Jt lo hi none n).1=((HT.sIx n 0 lo:Nat):Int)/\(Jt lo hi none n).2.1=((HT.sIx n n hi:Nat):Int)/\(Jt lo hi none n).2.2=1:=by
 refine ⟨?_,?_,rfl⟩
 ·cases lo with
  | none=>simp [Jt,HT.sIx]
  | some i =>
   simp only [Jt,HT.sIx,Mi,show (1:Int) > 0 by decide,if_true]
   by_cases h:i < 0
   ·simp only [h,if_true]<;>omega
   ·simp only [h,if_false]<;>omega
 ·cases hi with
  | none=>simp [Jt,HT.sIx]
  | some i =>
   simp only [Jt,HT.sIx,Mi,show (1:Int) > 0 by decide,if_true]
   by_cases h:i < 0
   ·simp only [h,if_true]<;>omega
   ·simp only [h,if_false]<;>omega
theorem ZdX (z:List Qb)(lo hi:Option Int):Mj z.toArray lo hi none=((z.drop (HT.sIx z.length 0 lo)).take (HT.sIx z.length z.length hi - HT.sIx z.length 0 lo)).toArray:=by
 obtain ⟨h1,h2,B⟩:=Zfs lo hi z.toArray.size
 unfold Mj
 rw [h1,h2,B]
 simp only [sliceRange_one,pick_run,size_toArray]<;>rfl
inductive Zju (K:Qa)(x:V)(lo hi:Option Int)(H:Hp)(Q:VK):Prop
 | mk (a xs:_):x=.ref a->SqL K H a xs->(∀ p,H p=none->Q (.ref p) (upd H p (.lst (VW xs lo hi))))->Zju K x lo hi H Q
def rSlL (K:Qa):V->Option Int->Option Int->Hp->VK->Prop:=fun x lo hi H Q=>Zju K x lo hi H Q
theorem ZcT:SlR X (rSlL X.K):=by
 intro pins s σ H x v vl vu lo hi sl Q I D Y pl W h
 obtain ⟨a,xs,rfl,Z,q⟩:=h
 cases D
 obtain ⟨J,r,B,hz⟩:=I.list Z
 have z:=r.length
 refine ⟨"list",_,Su.lookup,B.isList.typeIs,?_⟩
 refine SK B.isList Y pl W .none (by simp) ?_ (by rw [size_toArray]<;>omega)
 rw [ZdX,<- z]
 refine ⟨.ref s.heap.objs.size,_,I.laid (t':=s.toks) (o:=.lst (VW xs lo hi)) (fun b ob q=>Qc _ q) (Qe _) ?_,rfl,q _ (I.hok.fresh (Qe _))⟩
 exact ⟨Qr (ZfN xs lo hi) hz,_,0,(r.drop (HT.sIx xs.length 0 lo)).take (HT.sIx xs.length xs.length hi - HT.sIx xs.length 0 lo),Qk _ rfl⟩
def WZ:V->Bool
 | .non=>true
 | .bl _=>true
 | .int _=>true
 | .str _=>true
 | _=>false
def eqV:V->V->Bool
 | .non,.non=>true
 | .bl a,.bl b=>a == b
 | .bl a,.int b=>(if a then 1 else 0) == b
 | .int a,.bl b=>a == (if b then 1 else 0)
 | .int a,.int b=>a == b
 | .str a,.str b=>a == b
 | _,_=>false
theorem ZnY (B:RelV y u)(z:RelV x v)(J:WZ y=true)(D:WZ x=true):SeqAt.EqAt A s u v (eqV y x):=by
 cases y with
 | non =>
  cases B
  cases x with
  | non=>cases z;exact SeqAt.EqAt.same _
  | bl b=>cases z;exact SeqAt.EqAt.none_bool b
  | int b=>obtain ⟨t,rfl⟩:=z;exact SeqAt.EqAt.none_int b t
  | str b=>obtain ⟨t,rfl⟩:=z;exact SeqAt.EqAt.none_str b t
  | _=>exact absurd (show false=true from D) Qx
 | bl a =>
  cases B
  cases x with
  | non=>cases z;exact SeqAt.EqAt.bool_none a
  | bl b=>cases z;exact SeqAt.EqAt.bool_bool a b
  | int b=>obtain ⟨t,rfl⟩:=z;exact SeqAt.EqAt.bool_int a b t
  | str b=>obtain ⟨t,rfl⟩:=z;exact SeqAt.EqAt.bool_str a b t
  | _=>exact absurd (show false=true from D) Qx
 | int a =>
  obtain ⟨t',rfl⟩:=B
  cases x with
  | non=>cases z;exact SeqAt.EqAt.int_none a t'
  | bl b=>cases z;exact SeqAt.EqAt.int_bool a t' b
  | int b=>obtain ⟨t,rfl⟩:=z;exact SeqAt.EqAt.int_int a t' b t
  | str b=>obtain ⟨t,rfl⟩:=z;exact OO a t' b t
  | _=>exact absurd (show false=true from D) Qx
 | str a =>
  obtain ⟨t',rfl⟩:=B
  cases x with
  | non=>cases z;exact SeqAt.EqAt.str_none a t'
  | bl b=>cases z;exact SeqAt.EqAt.str_bool a t' b
  | int b=>obtain ⟨t,rfl⟩:=z;exact OP a t' b t
  | str b=>obtain ⟨t,rfl⟩:=z;exact SeqAt.EqAt.str_str a t' b t
  | _=>exact absurd (show false=true from D) Qx
 | _=>exact absurd (show false=true from J) Qx
def eqU (x:V)(u:Qb):Bool:=match u with
 | .none=>eqV .non x
 | .bool b=>eqV (.bl b) x
 | .int i _=>eqV (.int i) x
 | .str z _=>eqV (.str z) x
 | _=>false
theorem Zis (r:RelV y u)(f:WZ y=true):eqU x u=eqV y x:=by
 cases y with
 | non=>cases r;rfl
 | bl b=>cases r;rfl
 | int i=>obtain ⟨t,rfl⟩:=r;rfl
 | str z=>obtain ⟨t,rfl⟩:=r;rfl
 | _=>exact absurd (show false=true from f) Qx
theorem ZcA :∀{xs:List V}{us:List Qb},Vals xs us->xs.all WZ=true->us.any (eqU x)=xs.any fun y=>eqV y x
 | _,_,.nil,_=>rfl
 | y::xs,u::us,.cons r t,f=>by
  rw [OL,QO] at f
  rw [any_cons,any_cons,Zis r f.1,ZcA t f.2]
theorem Zbf (B:RelV x v)(z:WZ x=true):∀{xs:List V}{us:List Qb},Vals xs us->xs.all WZ=true->∀ u∈us,SeqAt.EqAt A s u v (eqU x u)
 | _,_,.nil,_=>fun u hu=>by cases hu
 | y::xs,u::us,.cons r t,f=>fun D hu=>by
  rw [OL,QO] at f
  rcases mem_cons.mp hu with rfl | hu
  ·rw [Zis r f.1];exact ZnY r B f.1 z
  ·exact Zbf B z t f.2 D hu
def inV (x:V)(xs:List V):Bool:=xs.any fun y=>eqV y x
inductive Zmb (K:Qa)(neg:Bool)(x y:V)(H:Hp)(Q:VK):Prop
 | mk (p xs:_):y=.ref p->(SqL K H p xs\/SqT K H p xs)->WZ x=true->xs.all WZ=true->(Q (.bl (if neg then !inV x xs else inV x xs)) H)->Zmb K neg x y H Q
def rIn (K:Qa)(neg:Bool):R2:=fun x y H Q=>Zmb K neg x y H Q
theorem Zfe:Xm X (Gv .NotIn) (rIn X.K true):=by
 intro pins s σ H x y v u Q I J W h
 obtain ⟨p,xs,rfl,hq,D,fs,q⟩:=h
 cases W
 rcases hq with hq | hq
 ·obtain ⟨z,r,pl,hz⟩:=I.list hq
  refine SeqAt.notIn_listAt (eqU x) pl.isList (fun w B=>Zbf J D r fs w (by simpa using B)) ⟨.bl _,H,I,rfl,?_⟩
  rw [show z.toArray.any (eqU x)=z.any (eqU x) by simp,ZcA r fs]
  exact q
 ·obtain ⟨z,r,pl,hz⟩:=I.tuple hq
  refine SeqAt.notIn_tupleAt (eqU x) pl (fun w B=>Zbf J D r fs w (by simpa using B)) ⟨.bl _,H,I,rfl,?_⟩
  rw [show z.toArray.any (eqU x)=z.any (eqU x) by simp,ZcA r fs]
  exact q
theorem ZL:Yv X (.builtin "len") (fun xs H Q=>∃ p ys,xs=[.ref p]/\(SqL X.K H p ys\/SqT X.K H p ys)/\Q (.int ys.length) H):=by
 intro pins s σ H xs us Q I r h
 obtain ⟨p,ys,rfl,hq,q⟩:=h
 obtain ⟨u,rfl,J⟩:=Yr r
 cases J
 have W:=Us
 rcases hq with hq | hq
 ·obtain ⟨D,B,pl,hz⟩:=I.list hq
  have z:=B.length
  exact Oz pl.isList (by simp only [size_toArray]<;>omega) ⟨.int ys.length,H,I.tok _,⟨s.toks+1,by rw [size_toArray,z]⟩,q⟩
 ·obtain ⟨D,B,pl,hz⟩:=I.tuple hq
  have z:=B.length
  exact len_tuple pl (by simp only [size_toArray]<;>omega) ⟨.int ys.length,H,I.tok _,⟨s.toks+1,by rw [size_toArray,z]⟩,q⟩
theorem Um:Yv X (.type "list") (fun xs H Q=>∃ p ys,xs=[.ref p]/\(SqL X.K H p ys\/SqT X.K H p ys)/\∀ l,H l=none->Q (.ref l) (upd H l (.lst ys))):=by
 intro pins s σ H xs us Q I r h
 obtain ⟨p,ys,rfl,hq,q⟩:=h
 obtain ⟨u,rfl,rx⟩:=Yr r
 cases rx
 have W:∀ (z:List Qb),Vals ys z->ys.length<=Qi->∀ (h':Heap) (D:Nat),(∀ b o',s.heap.get? b=some o'->h'.get? b=some o') ->
     h'.get? s.heap.objs.size=some { cls:=.type "list",dict:=none,data:=.seq z.toArray D,slots:=#[] }->EP X pins σ Q (.ref s.heap.objs.size) { s with heap:=h' }:=fun z B hz h' D kp e =>
   ⟨.ref s.heap.objs.size,_,I.laid (t':=s.toks) kp (Qe _) (show ObjOk X.prog X.w _ h' _ (.lst ys) from ⟨hz,z,D,B,e⟩),rfl,q _ (I.hok.fresh (Qe _))⟩
 rcases hq with hq | hq
 · obtain ⟨z,B,pl,hz⟩:=I.list hq
   have J:=B.length
   obtain ⟨o,ho,Y,n,Z⟩:=pl.isList
   exact call_list_seq p (.inl rfl) ho Y Z (fun h' D kp e=>W z B hz h' D kp e) (by simp only [size_toArray]<;>omega)
 · obtain ⟨z,B,pl,hz⟩:=I.tuple hq
   have J:=B.length
   obtain ⟨o,ho,Y,n,Z⟩:=pl
   exact call_list_seq p (.inr rfl) ho Y Z (fun h' D kp e=>W z B hz h' D kp e) (by simp only [size_toArray]<;>omega)
theorem ZdV:Yv X (.type "tuple") (fun xs H Q=>∃ p ys,xs=[.ref p]/\((SqL X.K H p ys/\∀ l,H l=none->Q (.ref l) (upd H l (.tup ys)))\/(SqT X.K H p ys/\Q (.ref p) H))):=by
 intro pins s σ H xs us Q I r h
 obtain ⟨p,ys,rfl,h⟩:=h
 obtain ⟨u,rfl,Z⟩:=Yr r
 cases Z
 rcases h with ⟨D,q⟩ | ⟨D,q⟩
 ·obtain ⟨z,B,pl,hz⟩:=I.list D
  have W:=B.length
  refine MH pl.isList (fun h' kp=>?_) (by simp only [size_toArray]<;>omega)
  have J:Inv X pins σ H { s with heap:=h' }:=I.kept (t':=s.toks) kp
  have Y:Inv X pins σ (upd H h'.objs.size (.tup ys)) { s with heap:=h'.push { cls:=.type "tuple",data:=.seq z.toArray } } :=
   J.laid (t':=s.toks) (fun b o e=>Qc _ e) (Qe _) (show ObjOk X.prog X.w _ _ _ (.tup ys) from ⟨hz,z,B,SY _ _⟩)
  exact ⟨.ref h'.objs.size,_,Y,rfl,q _ (J.hok.fresh (Qe _))⟩
 ·obtain ⟨z,B,pl,hz⟩:=I.tuple D
  exact call_tuple_same pl ⟨.ref p,H,I,rfl,q⟩
def tyV (K:Qa)(T:String)(x:V)(H:Hp):Prop:=match x with
 | .str _=>T="str"
 | .int _=>T="int"
 | .ref p=>(T="list"/\∃ xs,SqL K H p xs)\/(T="tuple"/\∃ o,K.lookup p=some o/\o.cls=.type "tuple"/\o.dict=none) \/
     (T="dict"/\((∃ kvs,H p=some (.dK kvs))\/∃ kvs,H p=some (.dT kvs)))\/(T="set"/\∃ S n,H p=some (.set S n))
 | _=>False
theorem ZjO (I:Inv X pins σ H s)(r:RelV x v)(ty:tyV X.K T x H):
 s.TypeIs v T/\∀ a,v=.ref a->∃ W,s.heap.get? a=some W/\W.dict=none:=by
 cases x with
 | str z =>
  obtain ⟨t,rfl⟩:=r
  cases (show T="str" from ty)
  exact ⟨OZ s z t,fun _ e=>nomatch e⟩
 | int i =>
  obtain ⟨t,rfl⟩:=r
  cases (show T="int" from ty)
  exact ⟨typeIs_int s i t,fun _ e=>nomatch e⟩
 | ref p =>
  cases r
  rcases ty with ⟨rfl,xs,hq⟩ | ⟨rfl,o,B,Y,D⟩ | ⟨rfl,B⟩ | ⟨rfl,S,n,B⟩
  ·obtain ⟨Z,_,pl,_⟩:=I.list hq
   refine ⟨pl.isList.typeIs,fun a e=>?_⟩
   cases e
   obtain ⟨o,n,e,c,D,_⟩:=pl
   exact ⟨o,e,D⟩
  ·refine ⟨⟨o,I.kIn p o B,Y⟩,fun a e=>?_⟩
   cases e
   exact ⟨o,I.kIn _ o B,D⟩
  ·have z:∃ o,s.heap.get? p=some o/\o.ExactDict:=by
    rcases B with ⟨kvs,B⟩ | ⟨kvs,B⟩
    ·obtain ⟨_,_,_,_,o,_,_,e,ex,_⟩:=I.hok p _ B
     exact ⟨o,e,ex⟩
    ·obtain ⟨_,_,_,_,o,_,_,e,ex,_⟩:=I.hok p _ B
     exact ⟨o,e,ex⟩
   obtain ⟨o,e,ex⟩:=z
   refine ⟨⟨o,e,ex.1⟩,fun a J=>?_⟩
   cases J
   exact ⟨o,e,ex.2.1⟩
  ·obtain ⟨o,_,_,_,e,ex,_⟩:=I.hok p _ B
   refine ⟨⟨o,e,ex.1⟩,fun a J=>?_⟩
   cases J
   exact ⟨o,e,ex.2.1⟩
 | _=>exact GE ty
def tBM0 (K:Qa)(T:String)(r:V->List V->Hp->VK->Prop)(to:TE):TE:=fun σ H Q=>to σ H fun x H1=>tyV K T x H1/\r x [] H1 Q
def tBM (K:Qa)(T:String)(r:V->List V->Hp->VK->Prop)(to:TE)(t:TA):TE:=fun σ H Q=>to σ H fun x H1=>tyV K T x H1/\t σ H1 fun xs H2=>r x xs H2 Q
variable {o e:Expr}{es:List Expr}{to:TE}{t:TA}{name:Str}{apos cpos:Pos}{T id:String}{r:V->List V->Hp->VK->Prop}
theorem ZoG (pa:PlainAttrs T)(D:Slot T name id)(J:typeOf (.builtin id)=pure (.type "method_descriptor"))(hm:MtR X id r)(ho:PE X o to)
 (z:JD o name X.env (eval o X.env)=eval o X.env:=by rfl) (B:(apos.endLine == cpos.line)=true:=by rfl):PE X (.Call (.Attribute o name apos) [] [] cpos) (tBM0 X.K T r to):=by
 intro pins s σ H Q I h
 refine wpAny_Call_method0_late z B (Zw (ho pins s σ H _ I h) fun v s1 Z=>?_)
 obtain ⟨x,H1,W,r1,ty,Y⟩:=Z
 obtain ⟨h1,h2⟩:=ZjO W r1 ty
 exact ⟨T,id,pa,D,J,h1,h2,Jx rfl (PySem.evalArgs_none (hm pins s1 σ H1 x [] v [] Q W r1 .nil Y))⟩
theorem YL (pa:PlainAttrs T)(W:Slot T name id)(Y:typeOf (.builtin id)=pure (.type "method_descriptor"))(hm:MtR X id r)(ho:PE X o to)(ha:PA X (e::es) t)
 (D:JD o name X.env (eval o X.env)=eval o X.env:=by rfl)
 (J:((Jm cpos (QH (e::es) X.env)).all (fun x=>!x.1)&&(Pm cpos (GW [] X.env)).all (fun x=>x.1.isSome)
  && decide ((e::es).length+([]:List Tx).length+(if ([]:List Tx).isEmpty then 0 else 1) < 30))=true:=by rfl)
 (B:(apos.endLine == cpos.line)=true:=by rfl) (hs:QH (e::es) X.env=(false,eval e X.env)::QH es X.env:=by rfl) (z:(Jm cpos (QH es X.env)).any (·.1)=false:=by rfl) :
 PE X (.Call (.Attribute o name apos) (e::es) [] cpos) (tBM X.K T r to t):=by
 intro pins s σ H Q I h
 refine wpAny_Call_method_late D J B rfl (Zw (ho pins s σ H _ I h) fun v s1 zz=>?_)
 obtain ⟨x,H1,I1,r1,ty,q1⟩:=zz
 obtain ⟨h1,h2⟩:=ZjO I1 r1 ty
 refine ⟨T,id,pa,W,Y,h1,h2,?_⟩
 have Z:=ha cpos pins s1 σ H1 _ I1 q1
 rw [hs] at Z ⊢
 refine Jx (by show (false || (Jm cpos (QH es X.env)).any (·.1))=false;rw [z]<;>rfl) (Tf ?_)
 exact Zw Z fun us s2 ⟨vs,H2,I2,r2,q2⟩=>hm pins s2 σ H2 x vs v us Q I2 r1 r2 q2
end
def MtM (X:Cx)(id:String)(r:V->List V->Hp->VK->Prop):Prop :=
 ∀ (pins:List (Addr×Obj)) (s:Qf) (σ:St) (H:Hp) (x:V) (xs:List V) (v:Qb) (us:List Qb) (Q:VK),Inv X pins σ H s->RelV x v->Vals xs us->r x xs H Q ->
  Qp (Qt X.prog X.w) X.A (call (.builtin id) (v::us)) (EP X pins σ Q) X.xe s
theorem Vals.one:∀{x:V}{us:List Qb},Vals [x] us->∃ u,us=[u]/\RelV x u
 | _,_,.cons r .nil=>⟨_,rfl,r⟩
theorem Vals.reverse (h:Vals xs us):Vals xs.reverse us.reverse:=by
 induction h with
 | nil=>exact .nil
 | cons r t ih=>rw [Pr,Pr];exact Vals.append ih (.cons r .nil)
theorem Vals.rep (h:Vals xs us):∀ k:Nat,Vals (QJ k xs).flatten (QJ k us).flatten
 | 0=>.nil
 | k+1=>by
  rw [Jk,Jk,Ps,Ps]
  exact Vals.append h (Vals.rep h k)
theorem Zdp (B:List Qb):∀(k:Nat)(z:List Qb),
 Na (fun D J=>D++J) z.toArray (QJ k B.toArray)=(z++(QJ k B).flatten).toArray
 | 0,z=>by simp
 | k + 1,z=>by
  have e:z.toArray++B.toArray=(z++B).toArray:=by simp
  have W:(z++B)++(QJ k B).flatten=z++(QJ (k+1) B).flatten:=by
   rw [Jk,Ps,append_assoc]
  rw [<- W,<- Zdp B k (z++B),<- e,Jk,RJ]
section
variable {X:Cx}{pins:List (Addr×Obj)}{σ:St}{H:Hp}{s:Qf}{l b:Addr}{xs ys zs:List V}
theorem Inv.lset {z its':List Qb}{n:Nat}{f:Array Qb->Array Qb}{t':Nat}(I:Inv X pins σ H s)(Y:H l=some (.lst xs))
 (e:s.heap.get? l=some { cls:=.type "list",data:=.seq z.toArray n }) (J:f z.toArray=its'.toArray) (D:Vals ys its') (hz:ys.length<=Qi) :
 Inv X pins σ (upd H l (.lst ys)) { s with heap:=s.heap.update l (QC f),toks:=t' }:=by
 have q:=PySem.IsL.update e f
 rw [J] at q
 refine I.write (x:=l) (e:=l) (by rw [Y];exact trivial) (.inl rfl) (fun Z u W B=>(Jw s.heap (QC f) (Jv W)).trans B) ⟨_,q⟩ ?_
 exact ⟨hz,its',_,D,q⟩
theorem Inv.lnew {t':Nat}(I:Inv X pins σ H s)(B:Vals ys z)(hz:ys.length<=Qi):
 Inv X pins σ (upd H s.heap.objs.size (.lst ys)) { s with heap:=s.heap.push { cls:=.type "list",data:=.seq z.toArray },toks:=t' } :=
 I.laid (fun _ _ q=>Qc _ q) (Qe _) ⟨hz,z,0,B,Qk _ rfl⟩
theorem Inv.fresh (I:Inv X pins σ H s):H s.heap.objs.size=none:=I.hok.fresh (Qe _)
theorem Inv.lstM (I:Inv X pins σ H s)(D:H l=some (.lst xs)):xs.length<=Qi/\∃ (B:List Qb) (n:Nat),Vals xs B/\xs.length=B.length/\s.heap.get? l=some { cls:=.type "list",data:=.seq B.toArray n }:=by
 obtain ⟨z,B,n,r,e⟩:=I.hok l _ D
 exact ⟨z,B,n,r,r.length,e⟩
theorem Zfb {n:Nat}(h:n<=Qi):Jf n=false:=by
 unfold Jf
 exact decide_eq_false (by omega)
end
section
variable {X:Cx}
inductive ZdF (x:V)(vs:List V)(H:Hp)(Q:VK):Prop
 | mk (l xs y:_):x=.ref l->vs=[y]->H l=some (.lst xs)->xs.length < Qi->Q .non (upd H l (.lst (xs++[y])))->ZdF x vs H Q
def Znl :V->List V->Hp->VK->Prop:=fun x vs H Q=>ZdF x vs H Q
theorem Yp:MtM X "list.append" Znl:=by
 intro pins s σ H x vs v us Q I W J h
 obtain ⟨l,xs,y,rfl,rfl,D,hz,q⟩:=h
 cases W
 obtain ⟨u,rfl,Y⟩:=J.one
 obtain ⟨z,B,n,r,Z,e⟩:=I.lstM D
 refine TW F.slot_list_append ⟨_,e,rfl⟩ F.entry_list_append (F.args_list_append_2 _ _) (PySem.list_append l B.toArray n u (by rw [size_toArray];omega)) ⟨e,?_⟩
 refine ⟨.non,_,I.lset (its':=B++[u]) D e (by simp) (r.append (.cons Y .nil)) ?_,rfl,q⟩
 rw [length_append,List.length_singleton]
 omega
inductive ZdG (x:V)(vs:List V)(H:Hp)(Q:VK):Prop
 | mk (l b xs zs:_):x=.ref l->vs=[.ref b]->H l=some (.lst xs)->H b=some (.lst zs)->xs.length+zs.length<=Qi->Q .non (upd H l (.lst (xs++zs)))->ZdG x vs H Q
def Znm :V->List V->Hp->VK->Prop:=fun x vs H Q=>ZdG x vs H Q
theorem Zdy:MtM X "list.extend" Znm:=by
 intro pins s σ H x vs v us Q I rx Z h
 obtain ⟨l,b,xs,zs,rfl,rfl,W,Y,hz,q⟩:=h
 cases rx
 obtain ⟨u,rfl,ru⟩:=Z.one
 cases ru
 obtain ⟨z,D,n,r,hl,e⟩:=I.lstM W
 obtain ⟨z2,B,n2,r2,hl2,e2⟩:=I.lstM Y
 have hsz:D.toArray.size+B.toArray.size<=sizeLine:=by rw [size_toArray,size_toArray];omega
 have J:¬ (!D.toArray.isEmpty&&Jf (D.toArray.size+B.toArray.size))=true:=by
  rw [Zfb hsz,Bool.and_false]
  exact Qx
 refine TW F.slot_list_extend ⟨_,e,rfl⟩ F.entry_list_extend (F.args_list_extend_2 _ _)
  (AutoSeq1.list_extend_list_list_0 l D.toArray n b B.toArray n2 J (by rw [size_toArray];omega) (by omega)) ⟨e,e2,?_⟩
 refine ⟨.non,_,I.lset (its':=D++B) W e (by simp) (r.append r2) ?_,rfl,q⟩
 rw [length_append]
 omega
inductive Zjn (x y:V)(H:Hp)(Q:VK):Prop
 | mk (l b xs zs:_):x=.ref l->y=.ref b->H l=some (.lst xs)->H b=some (.lst zs)->xs.length+zs.length<=Qi->(∀ p,H p=none->Q (.ref p) (upd H p (.lst (xs++zs))))->Zjn x y H Q
def rCat :R2:=fun x y H Q=>Zjn x y H Q
theorem Zfd:Xm X (JR .Add) rCat:=by
 intro pins s σ H x y v u Q I Y W h
 obtain ⟨l,b,xs,zs,rfl,rfl,hH,J,hz,q⟩:=h
 cases Y
 cases W
 obtain ⟨z,D,n,r,hl,e⟩:=I.lstM hH
 obtain ⟨z2,B,n2,Z,hl2,e2⟩:=I.lstM J
 refine PySem.P.add_list e e2 ?_ (by rw [size_toArray,size_toArray];omega)
 have ea:D.toArray++B.toArray=(D++B).toArray:=by simp
 rw [ea]
 exact ⟨.ref _,_,I.lnew (t':=s.toks) (r.append Z) (by rw [length_append];omega),rfl,q _ I.fresh⟩
inductive Zjt (x y:V)(H:Hp)(Q:VK):Prop
 | mk (l k xs:_):x=.ref l->y=.int k->H l=some (.lst xs)->-(2 ^ 63)<=k->k < 2 ^ 63->xs.length * k.toNat<=Qi->(∀ p,H p=none->Q (.ref p) (upd H p (.lst (QJ k.toNat xs).flatten)))->Zjt x y H Q
def rRep :R2:=fun x y H Q=>Zjt x y H Q
theorem ZmE {z:Type}(xs:List z)(k:Nat):(QJ k xs).flatten.length=k * xs.length:=by
 induction k with
 | zero=>simp
 | succ k ih=>rw [Jk,Ps,length_append,ih,Nat.succ_mul,Nat.add_comm]
theorem ZoF:Xm X (JR .Mult) rRep:=by
 intro pins s σ H x y v u Q I rx ry h
 obtain ⟨l,k,xs,rfl,rfl,hH,h1,h2,hz,q⟩:=h
 cases rx
 obtain ⟨t,rfl⟩:=ry
 obtain ⟨z,B,n,r,hl,e⟩:=I.lstM hH
 have J:B.toArray.size * k.toNat<=sizeLine:=by rw [size_toArray,<- hl];exact hz
 have Y:¬ B.toArray.size * k.toNat > (2 ^ 63 - 1) / 8:=by
  have:(Qi:Nat)<=(2 ^ 63 - 1) / 8:=by decide
  omega
 have Z:¬ (!Builtin.List.listFitsIndex k)=true:=by
  rw [fitsIndex_both h1 h2]
  exact Qx
 have D:¬ Jf (B.toArray.size * k.toNat)=true:=by
  rw [Zfb J]
  exact Qx
 have W:Na (fun x1 x2=>x1++x2) #[] (QJ (if B.toArray.isEmpty=true then 0 else k.toNat) B.toArray)=(QJ k.toNat B).flatten.toArray:=by
  have f0:∀ m:Nat,Na (fun x1 x2=>x1++x2) #[] (QJ m B.toArray)=(QJ m B).flatten.toArray:=fun m=>by
   have:=Zdp B m []
   rw [List.nil_append] at this
   exact this
  rw [f0]
  cases B with
  | nil=>simp
  | cons a r'=>rw [if_neg (by simp)]
 refine wpAny_binaryOp_repeat_ref (T:="list") (U:="int") (by decide) ⟨_,e,rfl⟩ (fun s'=>typeIs_int s' k t) noFill_list_mul F.fills_int_mul MI repeat_list F.slot_int_index.lookup
  (TW MI (typeIs_int s k t) F.entry_int_rmul (F.args_int_rmul_2 _ _) (int___rmul___int_list k t l B.toArray n)
   ⟨e,rfl,⟨_,e,rfl⟩,TW F.slot_list_mul ⟨_,e,rfl⟩ F.entry_list_mul (F.args_list_mul_2 _ _) (AutoListH.list___mul___list_int_3 l B.toArray n k t Z Y D) ⟨e,?_⟩⟩)
 rw [W]
 exact ⟨.ref _,_,I.lnew (t':=s.toks) (r.rep k.toNat) (by rw [ZmE,Rw];exact hz),rfl,q _ I.fresh⟩
end
section
variable {prog:Ql}{w:Qs}{A:QL}{E:Qb->Qf->Prop}{s:Qf}
end
section
variable {X:Cx}
end
end L2
namespace Att
open PySem PySem.W PySem.Calls PyProof.Rows
theorem ZbX :∀(ns:List Int)(vs:List Qb),WellAll P h vs (ns.map WData.int)->NG vs ns:=by
 intro ns
 induction ns with
 | nil =>
  intro vs w
  rw [NH] at w
  cases w
  exact .nil
 | cons n ns ih =>
  intro vs w
  rw [map_cons] at w
  cases w with
  | cons a b =>
   cases a
   exact .cons _ _ (ih _ b)
theorem Zjx {l:OpenLaw}{n:Nat}(hn:l.most=some n){P:Params}{h:Heap}{args:List WData}{z:List Qb}
 (B:l.row.toRowW.claim.pre args=true) (Y:WellAll P h z args) :
 ∃ a vs ns,z=[QE a]/\args=[WData.list (ns.map WData.int)]/\h.get? a=some { cls:=.type "list",data:=.seq vs.toArray }/\NG vs ns/\ns.length<=n:=by
 have Z:WShape.hasAll [] args [.list .int]=true:=(pre_splitW B).1
 have hc:l.pre.holds [] { args:=args }=true:=(pre_splitW B).2
 obtain ⟨d,r,rfl,h1,h2⟩:=hasAllW_cons Z
 obtain rfl:=hasAllW_nil h2
 obtain ⟨xs,rfl,h3⟩:=hasW_list h1
 obtain ⟨ns,rfl⟩:=items_int h3
 have D:ns.length<=n:=by
  unfold OpenLaw.pre at hc
  have J:(WTm.not (.lt (.lit (.int (n:Int))) (.len (.arg 0)))).holds [] { args:=[.list (ns.map .int)] }=true:=by
   have J:=(holds_andW hc).1
   rw [hn] at J
   exact J
  have W:=condW_of J (w_not (w_lt w_lit (w_len_list (w_arg rfl))))
  rw [length_map] at W
  refine Nat.le_of_not_lt fun q=>?_
  have q':(n:Int) < ((ns.length:Nat):Int):=by omega
  first
   | (rw [decide_eq_true q'] at W;exact absurd W (by decide))
   | (simp at W;omega)
 cases Y with
 | cons w1 w2 =>
  cases w2
  cases w1 with
  | list ho hall=>exact ⟨_,_,ns,rfl,rfl,ho,ZbX ns _ hall,D⟩
theorem Zji (l:OpenLaw)(args:List WData):l.row.toRowW.claim.post args (.bool true) args=true :=
 postW_of (r:=l.row.toRowW) (X:=(true == true))
  (show WShape.has [] (.bool true) .bool=true by first | rfl | decide | simp [WShape.has,WShape.arms,WShape.armsAll])
  (show (WTm.eq .res (.lit (.bool true))).value [] { args:=args,res:=some (.bool true),after:=args }=some (.bool (true == true)) from w_eq_bool (w_res rfl) w_lit) rfl
theorem attach_call {l:OpenLaw}{n:Nat}{q:Ql}{B:List Str}{XP:(Str->Option Qb)->Heap->Prop}{YP:Qs->Heap->Prop}{d:DefRec}
 (hn:l.most=some n) (hdf:d.params.defaults=[])
 (call:∀ (w:Qs) (D z:Qf) (mg mb:Str->Option Qb) (fa:Addr) (o:Obj) (pm cd W:Qb) (a:Addr) (vs:List Qb) (ns:List Int),
  Ground q B [] XP w D mg mb z.heap->YP w z.heap ->
  z.heap.get? fa=some o->o.data=.func (docDef d.name d.params d.body d.scope pm cd W)->z.heap.CodeRec cd d.name->mg d.name=some (.ref fa) ->
  z.heap.get? a=some { cls:=.type "list",data:=.seq vs.toArray }->NG vs ns->ns.length<=n->z.gens=#[] ->
  JN (Qt l.prog w) Ow (.call (.ref fa) ⟨[.ref a],[]⟩) (fun r s'=>r=.ok (.ret (.bool true))/\OldK z.heap s'.heap/\s'.os=z.os/\Sm s'.gens) z) :
 WalkO q B XP YP l.row.toRowW d [] (fun f vs=>PySem.call f vs):=by
 intro w D z mg mb G Y fa o pm cd W dV kV ho hd hcd hD hmg hg args vals as hpre hlay hrd hwl hlo
 obtain rfl:dV=.none:=Dflts.none hD hdf
 obtain rfl:kV=.none:=Dflts.noKw hD
 obtain ⟨a,vs,ns,rfl,rfl,hobj,J,Z⟩:=Zjx hn hpre hwl
 refine enter_call (GV (call w D z mg mb fa o pm cd W a vs ns G Y ho (fd_plain hd) hcd hmg hobj J Z hg) fun r s' hq=>?_)
 obtain ⟨rfl,h2,h3,h4⟩:=hq
 exact ⟨.inl ⟨.bool true,.bool true,[],rfl,fun _=>rfl,.bool true,Zji l _,fun _=>⟨List.Pairwise.nil,fun _ hm=>(nomatch hm)⟩⟩,h2,h3,h4⟩
section
variable {prog:Ql}{w:Qs}{A:QL}{E:Qb->Qf->Prop}{s:Qf}{K:Frag}
end
end Att
namespace L2
open PySem PySem.Spec PyProof.Rows
theorem Zaq:∀{vs:List Qb}{ns:List Int},NG vs ns->Vals (ns.map V.int) vs
 | _,_,.nil=>.nil
 | _,_,.cons n t h=>.cons ⟨t,rfl⟩ (Zaq h)
def ZQ (s:Stmt)(j:Nat):Stmt:=match s with
 | .ClassDef _ _ _ body _ _ _ _ _ _ _=>body.getD j (.Pass ⟨0,0,0,0⟩)
 | _=>.Pass ⟨0,0,0,0⟩
def Zaw (s:Stmt):Arguments:=match s with
 | .FunctionDef _ a _ _ _ _ _ _ _ _=>a
 | _=>{ posonlyargs:=[],args:=[],vararg:=none,kwonlyargs:=[],kw_defaults:=[],kwarg:=none,defaults:=[] }
def XO (s:Stmt):List Stmt:=match s with
 | .FunctionDef _ _ b _ _ _ _ _ _ _=>b
 | _=>[]
def Zk (s:Stmt):Scope:=match s with
 | .FunctionDef _ _ _ _ _ _ sc _ _ _=>sc
 | _=>{ kind:=.function,names:=[],isGenerator:=false,isCoroutine:=false }
abbrev ZJ:UR:=fun _ _ _ _ _ _=>False
abbrev E0:XK:=fun _ _ _=>False
theorem ZdY :Uj ZJ X E0:=fun _ _ _ _ _ _ _ h=>h.elim
structure Fun (K:Qa)(x qual:Str)(st:Stmt)(f:Addr)(fd:Qm):Prop where
 ex:∃ (oc:Qb) (od:Option Addr) (kV doc pm:Qb) (an:Option Addr) (cdv ct:Qb) (osl:Array (Option Qb)),
  fd=Po x qual (Zaw st) (XO st) (Zk st) .none kV doc pm an cdv ct/\K.lookup f=some ⟨oc,od,.func fd,osl⟩/\Oj K cdv qual=true
 kp:Jn K (.ref f)=true
section
variable {P:Ql}{w:Qs}{K:Qa}{mg:Str->Option Qb}{base:Heap}
theorem Fun.ok {x qual:Str}{st:Stmt}{f:Addr}{fd:Qm}{N ps:List Str}{k:Nat}{sp:Sp}(F:Fun K x qual st f fd)(S:Zp N ps (Zk st)) 
 (B:∀ (z:Qb) (A:QL) (outer:List Env) (s:Qf) (H:Hp) (vs:List V) (Q:VK) (E:XK),Room k (A.deeper (Rt qual (Zk st) s.heap.objs.size f z))->sp vs H Q E ->
  ∃ t,PSs (ZR ZJ P w K mg base N qual (Zk st) f z A outer s H E).nox (XO st) t/\t { nx:=fun _ H'=>Q .non H',rt:=Q } (start N vs) H) (len:∀ vs H Q E,sp vs H Q E->vs.length=ps.length:=by intro _ _ _ _ h;first | (cases h;subst_vars;rfl) | (repeat (first | exact congrArg GX h.1 | (obtain ⟨_,h⟩:=h)))):FnOk P w K mg base ZJ (k+1) f fd ps sp:=by
 obtain ⟨oc,od,kV,Z,pm,an,z,ct,W,rfl,lk,D⟩:=F.ex
 refine ZlR lk D S len fun A outer s H vs Q E Y J=>?_
 obtain ⟨t,h,q⟩:=B z A outer s H vs Q E Y J
 exact ⟨t,h.nox,q⟩
theorem Fun.binds {x qual:Str}{st:Stmt}{f:Addr}{fd:Qm}{ps:List Str}(F:Fun K x qual st f fd)
 (h:∀ (kV B W:Qb) (J:Option Addr) (z D:Qb) (us:List Qb),us.length=ps.length->bindArgs (Po x qual (Zaw st) (XO st) (Zk st) .none kV B W J z D) ⟨us,[]⟩=pure (ps.zip us)):Binds K fd ps []:=by
 obtain ⟨oc,od,kV,B,W,J,z,D,Y,rfl,lk,Z⟩:=F.ex
 exact .all (h kV B W J z D)
end
theorem Ua {k:Nat}(z:Room k A):A.units+1 < cLine:=QT (OC (by decide:1<=64) _) z.units
theorem ZjD {n:Nat}(h:n<=1000):n < sizeLine:=QT h (by decide)
section
variable {X:Cx}
theorem pv (i:Nat)(D:X.N[i]?=some x:=by rfl)(J:Vis X.env.scope x:=by first | exact Qy rfl | exact Jg (Qy rfl) | exact Jg (Jg rfl))(B:(x == ("__debug__":Str))=false:=by decide)(z:(x == ("__classdict__":Str))=false:=by decide):PE X (.Name x pos) (Zao i):=ZoJ D J B z
end
theorem ZN {A B:Prop}(h:B):if false=true then A else B:=by
 rw [if_neg Qx]
 exact h
theorem Yg {A B:Prop}(h:A):if true=true then A else B:=by
 rw [if_pos rfl]
 exact h
theorem Xy {c A B:Prop}[Decidable c](h1:c->A)(h2:¬ c->B):if c then A else B:=by
 by_cases h:c
 ·rw [if_pos h]
  exact h1 h
 ·rw [if_neg h]
  exact h2 h
def Same (H H':Hp):Prop:=∀ b o,H b=some o->H' b=some o
theorem Same.refl (H:Hp):Same H H:=fun _ _ h=>h
theorem Same.trans (a:Same H H1)(b:Same H1 H2):Same H H2:=fun c o h=>b c o (a c o h)
section
variable {κ:Type}[DecidableEq κ]
def ZG (kvs:List (κ×V))(k:κ):Option V:=(kvs.find? fun kv=>decide (kv.1=k)).map (·.2)
def Yz (kvs:List (κ×V))(k:κ)(v:V):List (κ×V) :=
 if (kvs.any fun kv=>decide (kv.1=k))=true then kvs.map (fun kv=>if kv.1=k then (kv.1,v) else kv) else kvs++[(k,v)]
def Vs (kvs:List (κ×V))(k:κ):List (κ×V):=kvs.filter fun kv=>decide (kv.1≠k)
theorem YU {p:κ×V}{r:List (κ×V)}{k:κ}(e:p.1=k):ZG (p::r) k=some p.2:=by simp [ZG,find?_cons,e]
theorem YT {p:κ×V}{r:List (κ×V)}{k:κ}(e:¬ p.1=k):ZG (p::r) k=ZG r k:=by simp [ZG,find?_cons,e]
theorem VL (k:κ):∀ kvs:List (κ×V),(kvs.any fun z=>decide (z.1=k))=(ZG kvs k).isSome
 | []=>rfl
 | p::r=>by
  rw [any_cons]
  by_cases e:p.1=k
  ·simp only [YU e,decide_eq_true e,Bool.true_or,Option.isSome_some]
  ·rw [YT e,decide_eq_false e,Bool.false_or];exact VL k r
theorem ZfG (k j:κ)(y:V):∀ kvs:List (κ×V),ZG (kvs.map fun B=>if B.1=k then (B.1,y) else B) j=(ZG kvs j).map fun x=>if j=k then y else x
 | []=>rfl
 | p :: r=>by
  have D:=ZfG k j y r
  rw [map_cons]
  by_cases h:p.1=k
  ·rw [if_pos h]
   by_cases e:p.1=j
   ·rw [YU (p:=(p.1,y)) e,YU e,GU,if_pos (e.symm.trans h)]
   ·rw [YT (p:=(p.1,y)) e,YT e,D]
  ·rw [if_neg h]
   by_cases e:p.1=j
   ·rw [YU (p:=p) e,YU e,GU,if_neg (fun z=>h (e.trans z))]
   ·rw [YT (p:=p) e,YT e,D]
theorem ZdQ (k j:κ)(y:V):∀ kvs:List (κ×V),ZG kvs k=none->ZG (kvs++[(k,y)]) j=if j=k then some y else ZG kvs j
 | [],_=>by
  by_cases e:k=j
  ·rw [if_pos e.symm];exact YU (p:=(k,y)) e
  ·rw [if_neg (fun z=>e z.symm)];exact YT (p:=(k,y)) e
 | p::r,hn=>by
  rw [PV]
  have B:¬ p.1=k:=fun z=>by rw [YU z] at hn;cases hn
  rw [YT B] at hn
  have D:=ZdQ k j y r hn
  by_cases e:p.1=j
  ·rw [YU e,YU e,if_neg (fun z=>B (e.trans z))]
  ·rw [YT e,YT e,D]
theorem Uy (kvs:List (κ×V))(k j:κ)(y:V):ZG (Yz kvs k y) j=if j=k then some y else ZG kvs j:=by
 unfold Yz
 by_cases a:(kvs.any fun z=>decide (z.1=k))=true
 ·rw [if_pos a,ZfG]
  rw [VL] at a
  by_cases e:j=k
  ·obtain ⟨x,B⟩:=SI.mp a
   rw [if_pos e,e,B,GU,if_pos rfl]
  ·rw [if_neg e]
   cases ZG kvs j with
   | none=>rfl
   | some x=>rw [GU,if_neg e]
 ·rw [if_neg a]
  refine ZdQ k j y kvs ?_
  rw [VL] at a
  cases q:ZG kvs k with
  | none=>rfl
  | some x=>rw [q] at a;exact (a rfl).elim
theorem Wb (kvs:List (κ×V))(k:κ)(v:V):(Yz kvs k v).length<=kvs.length+1:=by
 unfold Yz
 split
 ·rw [length_map];omega
 ·rw [length_append,length_cons,JV];omega
theorem RelO.isSome_eq (r:RelO o u):o.isSome=u.isSome:=by
 cases o with
 | none=>cases u with
  | none=>rfl
  | some _=>exact (show False from r).elim
 | some _=>cases u with
  | none=>exact (show False from r).elim
  | some _=>rfl
theorem RelO.getD (r:RelO o u)(rd:RelV d d'):RelV (o.getD d) (u.getD d'):=by
 cases o with
 | none=>cases u with
  | none=>exact rd
  | some _=>exact (show False from r).elim
 | some _=>cases u with
  | none=>exact (show False from r).elim
  | some _=>exact r
theorem KV.val (r:KV kvs vs)(k:κ):RelO (ZG kvs k) (Sv vs k):=by
 unfold KV at r
 induction r with
 | nil=>exact Gw
 | @cons p q ps qs h t ih =>
  obtain ⟨h1,h2⟩:=h
  by_cases e:p.1=k
  ·have B:q.1=k:=h1.symm.trans e
   have b:Sv (q::qs) k=some q.2:=by simp [Sv,find?_cons,B]
   rw [YU e,b];exact h2
  ·have B:¬ q.1=k:=fun z=>e (h1.trans z)
   have b:Sv (q::qs) k=Sv qs k:=by simp [Sv,find?_cons,B]
   rw [YT e,b];exact ih
theorem KV.any (r:KV kvs vs)(k:κ):(kvs.any fun z=>decide (z.1=k))=vs.any fun z=>decide (z.1=k):=by
 unfold KV at r
 induction r with
 | nil=>rfl
 | cons h t ih=>rw [any_cons,any_cons,ih,h.1]
theorem KV.repl (r:KV kvs vs)(k:κ)(D:RelV y u):
 KV (kvs.map fun B=>if B.1=k then (B.1,y) else B) (vs.map fun B=>if B.1=k then (B.1,u) else B):=by
 unfold KV at r ⊢
 induction r with
 | nil=>exact .nil
 | @cons p q ps qs h t ih =>
  rw [map_cons,map_cons]
  refine .cons ?_ ih
  obtain ⟨h1,h2⟩:=h
  by_cases e:p.1=k
  ·rw [if_pos e,if_pos (h1.symm.trans e)];exact ⟨h1,D⟩
  ·rw [if_neg e,if_neg (fun z=>e (h1.trans z))];exact ⟨h1,h2⟩
theorem KV.put (r:KV kvs vs)(k:κ)(z:RelV y u):KV (Yz kvs k y) (stored vs k u):=by
 unfold Yz stored
 rw [r.any k]
 by_cases e:(vs.any fun B=>decide (B.1=k))=true
 ·rw [if_pos e,if_pos e];exact r.repl k z
 ·rw [if_neg e,if_neg e];exact Paired.snoc r ⟨rfl,z⟩
theorem KV.drop (r:KV kvs vs)(k:κ):KV (Vs kvs k) (without vs k):=by
 unfold KV at r ⊢
 unfold Vs without
 induction r with
 | nil=>exact .nil
 | @cons p q ps qs h t ih =>
  obtain ⟨h1,h2⟩:=h
  rw [filter_cons,filter_cons]
  by_cases e:p.1=k
  ·have a:¬ decide (p.1≠k)=true:=by simp [e]
   have b:¬ decide (q.1≠k)=true:=by simp [h1.symm.trans e]
   rw [if_neg a,if_neg b];exact ih
  ·have B:¬ q.1=k:=fun z=>e (h1.trans z)
   have a:decide (p.1≠k)=true:=by simp [e]
   have b:decide (q.1≠k)=true:=by simp [B]
   rw [if_pos a,if_pos b];exact .cons ⟨h1,h2⟩ ih
theorem KV.length (r:KV kvs vs):kvs.length=vs.length:=JB r
theorem Zkf (kvs:List (κ×V))(k:κ):(Vs kvs k).length<=kvs.length:=JG _ _
end
theorem UF (r:RelV (kV k) u):(ZB P w).is k u=true:=by
 cases k with
 | inl i=>obtain ⟨t,e⟩:=(show ∃ t,u=TL i t from r);subst e;exact ZfQ P w i t
 | inr x=>obtain ⟨t,e⟩:=(show ∃ t,u=Pb x t from r);subst e;exact ZaM P w x t
theorem Zdt :∀{ks:List Zj}{us:List Qb},Vals (ks.map kV) us->ItemsAre (ZB P w) ks us
 | [],_,r=>by rw [NH] at r;cases r;exact .nil
 | k::ks,_,r=>by
  rw [map_cons] at r
  cases r with
  | cons h t=>exact .cons (UF h) (Zdt t)
abbrev KT (H:Hp):List (List Zj×V)->List (List Zj×Addr×Qb)->Prop:=SF fun p q=>p.1=q.1/\H q.2.1=some (.tup (p.1.map kV))/\RelV p.2 q.2.2
theorem KT.val (r:KT H kvs xs)(k:List Zj):RelO (ZG kvs k) ((MB xs k).map (·.2)):=by
 induction r with
 | nil=>exact Gw
 | @cons p q ps qs h t ih =>
  obtain ⟨h1,_,h2⟩:=h
  by_cases e:p.1=k
  ·have B:q.1=k:=h1.symm.trans e
   have b:MB (q::qs) k=some q.2:=by simp [MB,find?_cons,B]
   rw [YU e,b];exact h2
  ·have B:¬ q.1=k:=fun z=>e (h1.trans z)
   have b:MB (q::qs) k=MB qs k:=by simp [MB,find?_cons,B]
   rw [YT e,b];exact ih
theorem KT.repl (r:KT H kvs xs)(k:List Zj)(D:RelV y u):
 KT H (kvs.map fun B=>if B.1=k then (B.1,y) else B) (xs.map (putAt k u)):=by
 induction r with
 | nil=>exact .nil
 | @cons p q ps qs h t ih =>
  rw [map_cons,map_cons]
  refine .cons ?_ ih
  obtain ⟨h1,h2,J⟩:=h
  unfold putAt
  by_cases e:p.1=k
  ·rw [if_pos e,if_pos (h1.symm.trans e)];exact ⟨h1,h2,D⟩
  ·rw [if_neg e,if_neg (fun z=>e (h1.trans z))];exact ⟨h1,h2,J⟩
theorem KT.put (r:KT H kvs xs)(k:List Zj)(D:H b=some (.tup (k.map kV)))(z:RelV y u):
 KT H (Yz kvs k y) (storedH xs k b u):=by
 have e:(kvs.any fun B=>decide (B.1=k))=(MB xs k).isSome:=by
  rw [VL,(r.val k).isSome_eq,NI]
 unfold Yz storedH
 rw [e]
 by_cases q:(MB xs k).isSome=true
 ·rw [if_pos q,if_pos q];exact r.repl k z
 ·rw [if_neg q,if_neg q];exact Paired.snoc r ⟨rfl,D,z⟩
theorem KT.keeps (r:KT H kvs xs)(B:∀ b ys,H b=some (.tup ys)->H' b=some (.tup ys)):KT H' kvs xs :=
 SF.mapP r fun _ _ z=>⟨z.1,B _ _ z.2.1,z.2.2⟩
section
variable {P:Ql}{w:Qs}{H:Hp}{h:Heap}{a:Addr}
theorem Zmd (ok:HOk P w H h)(e:Rd H a u):ObjOk P w H h a u:=e.ok ok
theorem Zax (ok:HOk P w H h)(e:Rd H a (.dK kvs)):kvs.length<=Qi/\(a == Jd)=false/\∃ vs,KV kvs vs/\h.DictOf (ZB P w) a vs :=
 show ObjOk P w H h a (.dK kvs) from Zmd ok e
theorem UB (ok:HOk P w H h)(e:H a=some (.dK kvs)):kvs.length<=Qi/\(a == Jd)=false/\∃ vs,KV kvs vs/\h.DictOf (ZB P w) a vs:=Zax ok (.inl e)
theorem Zaa (ok:HOk P w H h)(e:H a=some (.tup (ks.map kV))):(SV (ZB P w)).is h ks a:=by
 obtain ⟨_,z,r,o,h1,h2,n,B⟩:=(show ObjOk P w H h a (.tup (ks.map kV)) from ok a _ e)
 exact ⟨o,z.toArray,n,h1,h2,B,by simpa using Zdt r⟩
theorem Zay (ok:HOk P w H h)(e:Rd H a (.dT kvs)):kvs.length<=Qi/\(a == Jd)=false /\
 ∃ xs,KT H kvs xs/\h.DictOfH (SV (ZB P w)) a xs:=by
 obtain ⟨z,y,xs,r,o,es,ep,h1,h2,D,B,J⟩:=(show ObjOk P w H h a (.dT kvs) from Zmd ok e)
 refine ⟨z,y,xs,r,o,es,ep,h1,h2,D,B,fun x hx=>?_,J⟩
 have all:∀ {l:List (List Zj×V)} {m:List (List Zj×Addr×Qb)},KT H l m->∀ x∈m,(SV (ZB P w)).is h x.1 x.2.1:=by
  intro l m q
  induction q with
  | nil=>intro x hx;exact nomatch hx
  | @cons p q ps qs hq t ih =>
   intro x hx
   rcases mem_cons.mp hx with e | hx
   ·subst e
    exact Zaa ok (by rw [<- hq.1];exact hq.2.1)
   ·exact ih x hx
 exact all r x hx
theorem Zpy (ok:HOk P w H h)(e:H a=some (.dT kvs)):kvs.length<=Qi/\(a == Jd)=false /\
 ∃ xs,KT H kvs xs/\h.DictOfH (SV (ZB P w)) a xs:=Zay ok (.inl e)
end
def DGet (H:Hp)(a:Addr)(y:V)(r:Option V):Prop :=
 (∃ kvs k,Rd H a (.dK kvs)/\y=kV k/\r=ZG kvs k)\/∃ kvs k b,Rd H a (.dT kvs)/\y=.ref b/\H b=some (.tup (k.map kV))/\r=ZG kvs k
def DPut (H:Hp)(a:Addr)(y v:V)(H':Hp):Prop :=
 (∃ kvs k,H a=some (.dK kvs)/\y=kV k/\kvs.length < Qi/\H'=upd H a (.dK (Yz kvs k v))) \/
 ∃ kvs k b,H a=some (.dT kvs)/\y=.ref b/\H b=some (.tup (k.map kV))/\kvs.length < Qi/\H'=upd H a (.dT (Yz kvs k v))
theorem DGet.k {H:Hp}{a:Addr}{kvs:List (Zj×V)}{k:Zj}(e:H a=some (.dK kvs)):DGet H a (kV k) (ZG kvs k):=.inl ⟨kvs,k,.inl e,rfl,rfl⟩
theorem DPut.k {H:Hp}{a:Addr}{kvs:List (Zj×V)}{k:Zj}{v:V}(e:H a=some (.dK kvs))(z:kvs.length < Qi):DPut H a (kV k) v (upd H a (.dK (Yz kvs k v))):=.inl ⟨kvs,k,e,rfl,z,rfl⟩
section
variable {X:Cx}{pins:List (Addr×Obj)}{σ:St}{H:Hp}{s:Qf}{a:Addr}{y v:V}{u r:Qb}{o:Option V}{A:QL}{E:Qb->Qf->Prop}
theorem Inv.big (I:Inv X pins σ H s):Jd < s.heap.objs.size:=by
 have h:Qv < s.heap.objs.size:=(I.mod.glob.keeps I.bk).lt
 exact Rx (by decide) h
theorem Zio (hu:A.units+1 < Oh)(I:Inv X pins σ H s)(g:DGet H a y (some v))(ry:RelV y u)(h:∀ J s',Inv X pins σ H s'->RelV v J->Q J s'):
 Qp (Qt X.prog X.w) A (NE (.ref a) u) Q E s:=by
 rcases g with ⟨kvs,k,e,W,l⟩ | ⟨kvs,k,b,e,W,eb,l⟩
 ·subst W
  obtain ⟨z,hd,vs,D,dd⟩:=Zax I.hok e
  obtain ⟨J,Z,B⟩:=RelO.some_of (v:=v) (o:=Sv vs k) (by rw [l];exact D.val k)
  exact wpAny_getItem_of (UF ry) dd.mapOf Z (h J _ (I.tok _) B)
 ·subst W
  cases (show u=QE b from ry)
  obtain ⟨z,hd,xs,D,dd⟩:=Zay I.hok e
  obtain ⟨J,Z,B⟩:=RelO.some_of (v:=v) (o:=(MB xs k).map (·.2)) (by rw [l];exact D.val k)
  obtain ⟨p,hp,Y⟩:=Gq.mp Z
  refine wpAny_getItem_heap (JY hu) (Zaa I.hok eb) dd hp ?_
  rw [Y]
  exact h J _ (I.tok _) B
theorem Zmt (Y:A.units+1 < Oh)(I:Inv X pins σ H s)(g:DGet H a y o)(W:RelV y u)(h:∀ s',Inv X pins σ H s'->Q (.bool (!o.isSome)) s'):
 Qp (Qt X.prog X.w) A (Gv .NotIn u (.ref a)) Q E s:=by
 rcases g with ⟨kvs,k,e,D,l⟩ | ⟨kvs,k,b,e,D,Z,l⟩
 ·subst D
  obtain ⟨z,J,vs,B,dd⟩:=Zax I.hok e
  refine wpAny_notIn_of (UF W) J dd.mapOf ?_
  rw [<- (B.val k).isSome_eq,<- l]
  exact h _ (I.tok _)
 ·subst D
  cases (show u=QE b from W)
  obtain ⟨z,J,xs,B,dd⟩:=Zay I.hok e
  refine wpAny_notIn_heap (JY Y) (Zaa I.hok Z) J dd ?_
  have q:=(B.val k).isSome_eq
  rw [NI] at q
  rw [<- q,<- l]
  exact h _ (I.tok _)
theorem Zav {t':Nat}(I:Inv X pins σ H s)(W:Mut (H a))(J:Pg a s.heap h')(D:∃ q,h'.get? a=some q)(new:ObjOk X.prog X.w (upd H a B) h' a B):
 Inv X pins σ (upd H a B) { s with heap:=h',toks:=t' } :=
 I.write (x:=a) (e:=a) W (.inl rfl) (fun b q Y z=>(J.2 b Y).trans z) D new
theorem ZeH (z:kvs.length<=Qi)(D:(a == Jd)=false)(B:KV kvs vs)(dd:h'.DictOf (ZB P w) a vs):
 ObjOk P w H' h' a (.dK kvs):=⟨z,D,vs,B,dd⟩
theorem Zip (hu:A.units+1 < Oh)(I:Inv X pins σ H s)(g:DPut H a y v H')(ry:RelV y u)(rv:RelV v r)(h:∀ s',Inv X pins σ H' s'->Q () s'):
 Qp (Qt X.prog X.w) A (setItem (.ref a) u r) Q E s:=by
 rcases g with ⟨kvs,k,e,ey,l,Y⟩ | ⟨kvs,k,b,e,ey,eb,l,Y⟩
 ·subst ey Y
  obtain ⟨z,W,vs,B,dd⟩:=UB I.hok e
  have hz:vs.length<=sizeLine:=by rw [<- B.length];exact z
  have hl:(Yz kvs k v).length<=sizeLine:=by have:=Wb kvs k v;omega
  refine wpAny_setItem_pairs (hsz:=hz) (UF ry) dd fun h' D Z=>h _ ?_
  have he:∃ q,h'.get? a=some q:=let ⟨q,_,_,J,_⟩:=D;⟨q,J⟩
  exact Zav I (by rw [e];exact Gw) Z he (ZeH hl W (B.put k rv) D)
 ·subst ey Y
  cases (show u=QE b from ry)
  obtain ⟨z,W,xs,B,dd⟩:=Zpy I.hok e
  have hz:xs.length<=sizeLine:=by rw [<- JB B];exact z
  have hl:(Yz kvs k v).length<=sizeLine:=by have:=Wb kvs k v;omega
  refine wpAny_setItem_heap (hsz:=hz) (JY hu) (Zaa I.hok eb) dd fun h' D Z=>h _ ?_
  obtain ⟨q,es,ep,J,h2,h3,h4,_,h5⟩:=D
  refine Zav I (by rw [e];exact Gw) Z ⟨q,J⟩ ⟨hl,W,_,(B.put k eb rv).keeps fun c ys ec=>?_,q,es,ep,J,h2,h3,h4,h5⟩
  rw [Zl (Zcc ec e (fun z=>nomatch z))]
  exact ec
end
section
variable {X:Cx}{pins:List (Addr×Obj)}{σ:St}{H:Hp}{s:Qf}{a:Addr}{kvs:List (Zj×V)}{k:Zj}{u:Qb}{A:QL}{E:Qb->Qf->Prop}
theorem Zpx (I:Inv X pins σ H s)(e:H a=some (.dK kvs))(Z:RelV (kV k) u)(l:ZG kvs k=some v)(hm:B=[]\/∃ x,B=[x])(h:∀ J s',Inv X pins σ (upd H a (.dK (Vs kvs k))) s'->RelV v J->Q J s'):Qp (Qt X.prog X.w) A (call (.builtin "dict.pop") (.ref a::u::B)) Q E s:=by
 obtain ⟨z,hd,vs,D,dd⟩:=UB I.hok e
 obtain ⟨J,hw,Y⟩:=RelO.some_of (v:=v) (o:=Sv vs k) (by rw [<- l];exact D.val k)
 have hp:(keyPart u).isSome=true:=by
  cases k with
  | inl i=>obtain ⟨t,q⟩:=(show ∃ t,u=TL i t from Z);subst q;rfl
  | inr x=>obtain ⟨t,q⟩:=(show ∃ t,u=Pb x t from Z);subst q;rfl
 have ha:Nb "dict.pop" ⟨.ref a::u::B,[]⟩:=by
  rcases hm with q | ⟨x,q⟩
  ·subst q;exact PySem.F.args_dict_pop_2 _ _
  ·subst q;exact Ra _ _ _
 refine Tz PM dd.typeIs Ry ha (meets_dict_pop_there (ZB X.prog X.w) a (UF Z) B hm hp)
  ⟨vs,J,dd,by rw [<- D.length];exact z,hw,fun h' W hs=>h J _ ?_ Y⟩
 have he:∃ q,h'.get? a=some q:=let ⟨q,_,_,hq,_⟩:=W;⟨q,hq⟩
 exact Zav I (by rw [e];exact Gw) hs he (ZeH (Qr (Zkf kvs k) z) hd (D.drop k) W)
theorem ZnW (I:Inv X pins σ H s)(e:H a=some (.dK kvs))(B:RelV (kV k) u)(l:ZG kvs k=none)(h:∀ s',Inv X pins σ H s'->Q r s'):
 Qp (Qt X.prog X.w) A (call (.builtin "dict.pop") [.ref a,u,r]) Q E s:=by
 obtain ⟨z,W,vs,D,dd⟩:=UB I.hok e
 have J:Sv vs k=none:=RelO.none_of (by rw [<- l];exact D.val k)
 have hp:(keyPart u).isSome=true:=by
  cases k with
  | inl i=>obtain ⟨t,q⟩:=(show ∃ t,u=TL i t from B);subst q;rfl
  | inr x=>obtain ⟨t,q⟩:=(show ∃ t,u=Pb x t from B);subst q;rfl
 exact Tz PM dd.typeIs Ry (Ra _ _ _) (meets_dict_pop_default (ZB X.prog X.w) a (UF B) W hp r) ⟨vs,dd,J,h _ (I.tok _)⟩
end
def NoSl (i:Expr):Prop:=∀ ov iv,Ol i false ov iv=operate [ov,iv] (NE ov iv)
theorem Znu {prog:Ql}{w:Qs}{A:QL}{E:Qb->Qf->Prop}{s:Qf}{env:Env}{value z:Expr}{pos:Pos}{T id:String}{Q:Qb->Qf->Prop}
 (hl:OW (.type T) "__getitem__"=pure (some (.builtin id))) (hs:NoSl z)
 (h:Qp (Qt prog w) A (eval value env) (fun o W=>Qp (Qt prog w) A (eval z env) (fun i B=>B.TypeIs o T/\Qp (Qt prog w) A (NE o i) Q E B) E W) E s) :
 Qp (Qt prog w) A (eval (.Subscript value z pos) env) Q E s:=by
 refine Rv (Gj h (fun o W h₁=>Gj h₁ (fun i B D=>?_) fun _ _ x=>x) fun _ _ x=>x)
 obtain ⟨hT,D⟩:=D
 unfold SJ
 refine Qd ?_
 rw [getitemInPython_of_ne hT.not_modules]
 refine Qd (MJ hT hl ?_)
 have Y:Qp (Qt prog w) A (Ol z false o i) (fun r J=>Qp (Qt prog w) A (letTemporaryGo value o r >>= fun _=>pure r) Q E J) E B:=by
  rw [hs o i]
  exact wpAny_operating (Gj D (fun r J Z=>Qd (wpAny_letTemporaryGo (Qh Z))) fun _ _ x=>x)
 first
  | exact Qh (Qd Y)
  | exact Qd (Qh (Qd Y))
  | exact Qd Y
theorem ZfO (I:Inv X pins σ H s)(g:DGet H a y o):s.TypeIs (.ref a) "dict":=by
 rcases g with ⟨kvs,k,e,_,_⟩ | ⟨kvs,k,b,e,_,_,_⟩
 ·obtain ⟨_,_,vs,_,dd⟩:=Zax I.hok e
  exact dd.typeIs
 ·obtain ⟨_,_,xs,_,dd⟩:=Zay I.hok e
  exact dd.typeIs
inductive ZgF (Q:VK)(x y:V)(H2:Hp):Prop
 | mk (a v:_):x=.ref a->DGet H2 a y (some v)->Q v H2->ZgF Q x y H2
def Zqf (td ty:TE):TE:=fun σ H Q=>td σ H fun x H1=>ty σ H1 fun y H2=>ZgF Q x y H2
inductive ZdN (Q:VK)(y x:V)(H2:Hp):Prop
 | mk (a o:_):x=.ref a->DGet H2 a y o->Q (.bl (!o.isSome)) H2->ZdN Q y x H2
def Znx (ty td:TE):TE:=fun σ H Q=>ty σ H fun y H1=>td σ H1 fun x H2=>ZdN Q y x H2
inductive Zgx (D:YF)(σ:St)(v x y:V)(H3:Hp):Prop
 | mk (a H4:_):x=.ref a->DPut H3 a y v H4->D.nx σ H4->Zgx D σ v x y H3
def ZpN (td ty tv:TE):TS:=fun D σ H=>tv σ H fun v H1=>td σ H1 fun x H2=>ty σ H2 fun y H3=>Zgx D σ v x y H3
section
variable {X:Cx}{o i e value:Expr}{pos pos' tpos:Pos}{td ty tv:TE}
theorem Znf (J:X.A.units+1 < Oh)(ho:PE X o td)(hi:PE X i ty)(hs:NoSl i):PE X (.Subscript o i pos) (Zqf td ty):=by
 intro pins s σ H Q I h
 refine Znu PySem.F.slot_dict_getitem.lookup hs (Zw (ho pins s σ H _ I h) fun u s1 B=>?_)
 obtain ⟨x,H1,W,Z,q1⟩:=B
 refine Zw (hi pins s1 σ H1 _ W q1) fun iv s2 B=>?_
 obtain ⟨y,H2,D,Y,a,v,ex,g,q2⟩:=B
 subst ex
 obtain rfl:u=QE a:=Z
 exact ⟨ZfO D g,Zio J D g Y fun w' s3 I3 z=>⟨v,H2,I3,z,q2⟩⟩
theorem Zje (B:X.A.units+1 < Oh)(hi:PE X i ty)(ho:PE X o td):PC X .NotIn i o (Znx ty td):=by
 intro pins s σ H Q I h
 refine Zw (hi pins s σ H _ I h) fun iv s1 z=>?_
 obtain ⟨y,H1,D,W,q1⟩:=z
 refine Zw (ho pins s1 σ H1 _ D q1) fun u s2 z=>?_
 obtain ⟨x,H2,J,Y,a,Z,ex,g,q2⟩:=z
 subst ex
 obtain rfl:u=QE a:=Y
 exact Zmt B J g W fun s3 I3=>⟨.bl (!Z.isSome),H2,I3,rfl,q2⟩
theorem ZaE (W:X.A.units+1 < Oh)(ho:PE X o td)(hi:PE X i ty)(Z:PE X value tv)(hs:SX value (some (.Subscript o i pos')) pos.line X.env=pure false) :
 PS X (.Assign [.Subscript o i pos'] value pos) (ZpN td ty tv):=by
 intro pins s σ H D I h
 refine wpAny_Assign_Subscript (Zw (Z pins s σ H _ I h) fun r s1 z=>?_) hs
 obtain ⟨v,H1,I1,rv,q1⟩:=z
 refine Zw (ho pins s1 σ H1 _ I1 q1) fun u s2 z=>?_
 obtain ⟨x,H2,Y,rx,q2⟩:=z
 refine Zw (hi pins s2 σ H2 _ Y q2) fun iv s3 z=>?_
 obtain ⟨y,H3,I3,ry,a,B,ex,g,q3⟩:=z
 subst ex
 obtain rfl:u=QE a:=rx
 exact Zip W I3 g ry rv fun s4 J=>⟨σ,B,J,q3⟩
end
theorem ZeG (h:Heap)(z:Jd < h.objs.size):ObjOk P w H (h.push { cls:=.type "dict",data:=.dict #[] }) h.objs.size (.dK []) :=
 ⟨Qw _,beq_eq_false_iff_ne.mpr (Jv (Qn z)),[],.nil,MK h⟩
def Zpe:TE:=fun _ H Q=>∀ p,H p=none->Q (.ref p) (upd H p (.dK []))
section
variable {X:Cx}{pos:Pos}
theorem Zff:PE X (.Dict [] [] pos) Zpe:=fun pins s σ H Q I h =>
 wpAny_Dict_empty ⟨.ref s.heap.objs.size,_,I.laid (a:=s.heap.objs.size) (o:=.dK []) (t':=s.toks) (fun _ _ q=>Qc _ q) (Qe _) (ZeG s.heap I.big),rfl,h _ (I.hok.fresh (Qe _))⟩
end
def ZfC:List (TE×TE)->St->Hp->(List (V×V)->Hp->Prop)->Prop
 | [],_,H,Q=>Q [] H
 | (tk,tv)::r,σ,H,Q=>tk σ H fun x H1=>tv σ H1 fun y H2=>ZfC r σ H2 fun ps H3=>Q ((x,y)::ps) H3
abbrev VV:List (V×V)->List (Qb×Qb)->Prop:=SF fun p q=>RelV p.1 q.1/\RelV p.2 q.2
def PPs (X:Cx)(pos:Pos)(keys:List (Option Expr))(values:List Expr)(trs:List (TE×TE)):Prop :=
 ∀ (pins:List (Addr×Obj)) (s:Qf) (σ:St) (H:Hp) (Q:List (V×V)->Hp->Prop),Inv X pins σ H s->ZfC trs σ H Q ->
  Qp (Qt X.prog X.w) X.A (evalPairs (pairTrees keys values X.env pos)) (fun vs s'=>∃ ps H',Inv X pins σ H' s'/\VV ps vs/\Q ps H') X.xe s
theorem Znk :PPs X pos [] [] []:=fun pins s σ H Q I h=>pairTrees_nil_walk ⟨[],H,I,.nil,h⟩
theorem Zlg (W:PE X k tk)(hv:PE X v tv)(Z:PPs X pos ks vs z):
 PPs X pos (some k::ks) (v::vs) ((tk,tv)::z):=fun pins s σ H Q I h =>
 pairTrees_cons_walk (Zw (W pins s σ H _ I h) fun u s1 ⟨x,H1,D,rx,q1⟩=>Zw (hv pins s1 σ H1 _ D q1) fun w2 s2 ⟨y,H2,Y,ry,q2⟩ =>
  Zw (Z pins s2 σ H2 _ Y q2) fun ws s3 ⟨ps,H3,I3,B,J⟩=>⟨(x,y)::ps,H3,I3,.cons ⟨rx,ry⟩ B,J⟩)
def Zae (kvs more:List (Zj×V)):List (Zj×V):=more.foldl (fun acc kv=>Yz acc kv.1 kv.2) kvs
theorem KV.merge:∀{z:List (Zj×V)}{B:List (Zj×Qb)}{kvs:List (Zj×V)}{vs:List (Zj×Qb)},KV z B->KV kvs vs->KV (Zae kvs z) (merged vs B):=by
 intro z B kvs vs r
 unfold KV at r
 induction r generalizing kvs vs with
 | nil=>intro q;exact q
 | @cons p q ps qs h t ih =>
  intro D
  have e:KV (Yz kvs p.1 p.2) (stored vs q.1 q.2):=by
   have:=D.put p.1 h.2
   rw [<- h.1];exact this
  exact ih e
theorem VN:∀(z kvs:List (Zj×V)),(Zae kvs z).length<=kvs.length+z.length
 | [],kvs=>by show kvs.length<=kvs.length+0;omega
 | p::r,kvs=>by
  have h1:=VN r (Yz kvs p.1 p.2)
  have h2:=Wb kvs p.1 p.2
  show (Zae (Yz kvs p.1 p.2) r).length<=_
  rw [length_cons];omega
theorem ZbH {P:Ql}:∀{kvs:List (Zj×V)}{B:List (Qb×Qb)},VV (kvs.map fun D=>(kV D.1,D.2)) B->∃ z,Carries (ZB P w) B z/\KV kvs z
 | [],_,r=>by rw [NH] at r;cases r;exact ⟨[],Gw,.nil⟩
 | p :: kvs,_,r=>by
  rw [map_cons] at r
  cases r with
  | @cons a b as bs h t =>
   obtain ⟨z,c,q⟩:=ZbH (P:=P) (w:=w) t
   obtain ⟨b1,b2⟩:=b
   exact ⟨(p.1,b2)::z,⟨UF h.1,rfl,c⟩,.cons ⟨rfl,h.2⟩ q⟩
def Zqg (trs:List (TE×TE)):TE:=fun σ H Q=>∀ p,H p=none->ZfC trs σ (upd H p (.dK [])) fun ps H2=>H2 p=some (.dK [])/\∃ kvs:List (Zj×V),ps=kvs.map (fun kv=>(kV kv.1,kv.2))/\kvs.length<=15/\Q (.ref p) (upd H2 p (.dK (Zae [] kvs)))
theorem Zng (h:PPs X pos keys B J)(W:keys.all (·.isSome)=true)(hl:keys.length=B.length)(h0:keys≠[])(Z:keys.length<=15):PE X (.Dict keys B pos) (Zqg J):=by
 intro pins s σ H Q I q
 have hn:=I.hok.fresh (Qe s.heap.objs.size)
 have I1:=I.laid (a:=s.heap.objs.size) (o:=.dK []) (h':=s.heap.push { cls:=.type "dict",data:=.dict #[] }) (t':=s.toks) (fun _ _ q=>Qc _ q) (Qe _) (ZeG s.heap I.big)
 refine wpAny_Dict_walk (knd:=ZB X.prog X.w) W hl h0 Z (Zw (h pins _ σ _ _ I1 (q _ hn)) fun ws s2 zz=>?_)
 obtain ⟨ps,H2,I2,Y,e,kvs,ep,lk,q2⟩:=zz
 subst ep
 obtain ⟨rs,c,rk⟩:=ZbH (P:=X.prog) (w:=X.w) Y
 obtain ⟨z,hd,vs0,r0,dd⟩:=UB I2.hok e
 cases r0
 refine ⟨rs,c,dd,fun h' D hs=>⟨.ref s.heap.objs.size,_,?_,rfl,q2⟩⟩
 have hz:(Zae [] kvs).length<=sizeLine:=by
  have h1:=VN kvs []
  rw [JV] at h1
  rw [QY];omega
 have he:∃ q,h'.get? s.heap.objs.size=some q:=let ⟨q,_,_,hq,_⟩:=D;⟨q,hq⟩
 exact Zav I2 (by rw [e];exact Gw) hs he (ZeH hz hd (rk.merge .nil) D)
structure M1 (X:Cx)(o:Expr)(m:Str)(apos:Pos)(e:Expr)(cpos:Pos):Prop where
 base:JD o m X.env (eval o X.env)=eval o X.env
 few:((Jm cpos (QH [e] X.env)).all (fun x=>!x.1)&&(Pm cpos (GW [] X.env)).all (fun x=>x.1.isSome)
  && decide (([e]:List Expr).length+([]:List Tx).length+(if ([]:List Tx).isEmpty then 0 else 1) < 30))=true
 line:(apos.endLine == cpos.line)=true
 trees:Jm cpos (QH [e] X.env)=[(false,eval e X.env)]
structure M2 (X:Cx)(o:Expr)(m:Str)(apos:Pos)(e f:Expr)(cpos:Pos):Prop where
 base:JD o m X.env (eval o X.env)=eval o X.env
 few:((Jm cpos (QH [e,f] X.env)).all (fun x=>!x.1)&&(Pm cpos (GW [] X.env)).all (fun x=>x.1.isSome)
  && decide (([e,f]:List Expr).length+([]:List Tx).length+(if ([]:List Tx).isEmpty then 0 else 1) < 30))=true
 line:(apos.endLine == cpos.line)=true
 trees:Jm cpos (QH [e,f] X.env)=[(false,eval e X.env),(false,eval f X.env)]
def IsD (H:Hp)(a:Addr):Prop:=(∃ kvs,Rd H a (.dK kvs))\/∃ kvs,Rd H a (.dT kvs)
theorem ZiB (I:Inv X pins σ H s)(d:IsD H a):
 s.TypeIs (.ref a) "dict"/\(∀ b,QE a=.ref b->∃ z,s.heap.get? b=some z/\z.dict=none)/\(a == Jd)=false:=by
 rcases d with ⟨kvs,e⟩ | ⟨kvs,e⟩
 ·obtain ⟨_,B,vs,_,dd⟩:=Zax I.hok e
  refine ⟨dd.typeIs,fun b q=>?_,B⟩
  cases q
  obtain ⟨z,_,_,h1,h2,_⟩:=dd
  exact ⟨z,h1,h2.2.1⟩
 ·obtain ⟨_,B,xs,_,dd⟩:=Zay I.hok e
  refine ⟨dd.typeIs,fun b q=>?_,B⟩
  cases q
  obtain ⟨z,_,_,h1,h2,_⟩:=dd
  exact ⟨z,h1,h2.2.1⟩
section
variable {X:Cx}{pins:List (Addr×Obj)}{σ:St}{H:Hp}{s:Qf}{a:Addr}{y d:V}{u r:Qb}{o:Option V}{A:QL}{E:Qb->Qf->Prop}
theorem ZnV (Z:A.units+1 < Oh)(I:Inv X pins σ H s)(g:DGet H a y o)(W:RelV y u)(h:∀ Y s',Inv X pins σ H s'->RelV (o.getD .non) Y->Q Y s'):
 Qp (Qt X.prog X.w) A (call (.builtin "dict.get") [.ref a,u]) Q E s:=by
 rcases g with ⟨kvs,k,e,D,l⟩ | ⟨kvs,k,b,e,D,eb,l⟩
 ·subst D
  obtain ⟨z,J,vs,B,dd⟩:=Zax I.hok e
  refine Tz PN dd.typeIs RA (Rb _ _) (meets_dict_get (ZB X.prog X.w) a (UF W) J) ⟨_,dd.mapOf,h _ _ (I.tok _) ?_⟩
  rw [l]
  exact (B.val k).getD rfl
 ·subst D
  cases (show u=QE b from W)
  obtain ⟨z,J,xs,B,dd⟩:=Zay I.hok e
  refine Tz PN dd.typeIs RA (Rb _ _) (meetsH_dict_get (SV (ZB X.prog X.w)) a b J) ⟨JY Z,k,xs,Zaa I.hok eb,dd,h _ _ (I.tok _) ?_⟩
  rw [l]
  exact (B.val k).getD rfl
end
inductive ZfA (ty:TE)(σ:St)(Q:VK)(x:V)(H1:Hp):Prop
 | mk (a:_):x=.ref a->IsD H1 a->(ty σ H1 fun y H2=>∃ o,DGet H2 a y o/\Q (o.getD .non) H2)->ZfA ty σ Q x H1
def Zpd (td ty:TE):TE:=fun σ H Q=>td σ H fun x H1=>ZfA ty σ Q x H1
inductive ZfB (ty tx:TE)(σ:St)(Q:VK)(x:V)(H1:Hp):Prop
 | mk (a:_):x=.ref a->IsD H1 a->(ty σ H1 fun y H2=>tx σ H2 fun z H3=>∃ kvs k,H3 a=some (.dK kvs)/\y=kV k/\(∀ v,ZG kvs k=some v->Q v (upd H3 a (.dK (Vs kvs k))))/\(ZG kvs k=none->Q z H3))->ZfB ty tx σ Q x H1
def Zpf (td ty tx:TE):TE:=fun σ H Q=>td σ H fun x H1=>ZfB ty tx σ Q x H1
section
variable {X:Cx}{o e f:Expr}{apos cpos:Pos}{td ty tx:TE}
theorem Zbl (J:X.A.units+1 < Oh)(ho:PE X o td)(W:PE X e ty)(m:M1 X o "get" apos e cpos):PE X (.Call (.Attribute o "get" apos) [e] [] cpos) (Zpd td ty):=by
 intro pins s σ H Q I h
 refine NJ m.base m.few m.line Pc PN PySem.F.type_dict_get (Zw (ho pins s σ H _ I h) fun u s1 B=>?_)
 obtain ⟨x,H1,D,rx,a,ex,d,q1⟩:=B
 subst ex
 obtain rfl:u=QE a:=rx
 obtain ⟨t1,t2,_⟩:=ZiB D d
 refine ⟨t1,t2,?_⟩
 rw [m.trees]
 refine Jx rfl (Tf (JX (Zw (W pins s1 σ H1 _ D q1) fun iv s2 B=>?_)))
 obtain ⟨y,H2,Y,Z,ov,g,q2⟩:=B
 refine Sq ?_
 exact ZnV J Y g Z fun w' s3 I3 z=>⟨_,H2,I3,z,q2⟩
theorem Zfg (ho:PE X o td)(he:PE X e ty)(hf:PE X f tx)(m:M2 X o "pop" apos e f cpos):PE X (.Call (.Attribute o "pop" apos) [e,f] [] cpos) (Zpf td ty tx):=by
 intro pins s σ H Q I h
 refine NJ m.base m.few m.line Pc PM PySem.F.type_dict_pop (Zw (ho pins s σ H _ I h) fun u s1 zz=>?_)
 obtain ⟨x,H1,W,rx,a,ex,d,q1⟩:=zz
 subst ex
 obtain rfl:u=QE a:=rx
 obtain ⟨t1,t2,_⟩:=ZiB W d
 refine ⟨t1,t2,?_⟩
 rw [m.trees]
 refine Jx rfl (Tf (JX (Zw (he pins s1 σ H1 _ W q1) fun iv s2 ⟨y,H2,I2,J,q2⟩ =>
  JX (Zw (hf pins s2 σ H2 _ I2 q2) fun fv s3 ⟨z,H3,Y,rz,kvs,k,ea,ey,q3,q4⟩=>Sq ?_))))
 subst ey
 cases l:ZG kvs k with
 | some v=>exact Zpx Y ea J l (.inr ⟨fv,rfl⟩) fun w' Z B D=>⟨v,_,B,D,q3 v l⟩
 | none=>exact ZnW Y ea J l fun Z B=>⟨z,H3,B,rz,q4 l⟩
end
section
variable {X:Cx}{pins:List (Addr×Obj)}{σ:St}{H:Hp}{s:Qf}{a:Addr}{kvs:List (Zj×V)}{A:QL}{E:Qb->Qf->Prop}
end
section
variable {X:Cx}{pins:List (Addr×Obj)}{σ:St}{H:Hp}{s:Qf}{a:Addr}{y:V}{u:Qb}{A:QL}{E:Qb->Qf->Prop}
end
section
variable {κ:Type}[DecidableEq κ]
end
theorem Zad {env:Env}(y:Str):∀ z:List (Str×Te),
 (z.map fun (n,k)=>if (k == JE&&env.scope.kind == .function&&env.kindOf n == some .cell) then (n,NameKind.cell) else (n,k)).lookup y =
  (z.lookup y).map fun k=>if (k == JE&&env.scope.kind == .function&&env.kindOf y == some .cell) then NameKind.cell else k
 | []=>rfl
 | (n, k)::r=>by
  have D:=Zad (env:=env) y r
  rw [map_cons]
  cases hx:y == n with
  | true =>
   have e:y=n:=by simpa using hx
   subst e
   by_cases B:(k == JE&&env.scope.kind == .function&&env.kindOf y == some .cell)=true
   ·simp only [B,if_true,lookup_cons,beq_self_eq_true,GU]
   ·simp only [B,lookup_cons,beq_self_eq_true,GU]
    simp [B]
  | false =>
   by_cases B:(k == JE&&env.scope.kind == .function&&env.kindOf n == some .cell)=true
   ·simp only [B,if_true,lookup_cons,hx];exact D
   ·simp only [B,lookup_cons,hx,Gx,if_false];exact D
theorem Xa (D:∀ z∈scope.names,z.2≠.cell)(h:(relabel scope env).names.lookup y=some k):
 scope.names.lookup y=some k\/(scope.names.lookup y=some .free/\k=.cell):=by
 unfold relabel at h
 rw [Zad] at h
 cases e:scope.names.lookup y with
 | none=>rw [e] at h;cases h
 | some k0 =>
  rw [e] at h
  simp only [GU,Sw] at h
  by_cases B:(k0 == JE&&env.scope.kind == .function&&env.kindOf y == some .cell)=true
  ·rw [if_pos B] at h
   right
   simp only [QO,beq_iff_eq] at B
   exact ⟨by rw [B.1.1],h.symm⟩
  ·rw [if_neg B] at h
   left;rw [h]
theorem mem_of_lookup {B:Type}{y:Str}{k:B}:∀{l:List (Str×B)},l.lookup y=some k->(y,k)∈l
 | [],h=>by cases h
 | (n,z)::r,h=>by
  cases hx:y == n with
  | true =>
   have e:y=n:=by simpa using hx
   subst e
   simp only [lookup_cons,beq_self_eq_true] at h
   cases h
   exact mem_cons_self
  | false =>
   simp only [lookup_cons,hx] at h
   exact mem_cons_of_mem _ (mem_of_lookup h)
theorem Vm {env:Env}:∀(z:List (Str×Te))(D:List (Str×Addr)),(∀ y∈z,y.2=.free->∃ c,env.cells.lookup y.1=some c) ->
 ∃ B:List (Str×Addr),(forIn z D fun (x:Str×Te) (r:List (Str×Addr))=>(if x.2 == JE then (do let a <- cellOf env x.1;pure (Jy ((x.1,a)::r))) else pure (Jy r):Sem (ForInStep (List (Str×Addr)))))=pure B /\
  (∀ y c,B.lookup y=some c->D.lookup y=some c\/env.cells.lookup y=some c)/\(∀ y,D.lookup y≠none->B.lookup y≠none)/\∀ y∈z,y.2=.free->B.lookup y.1≠none
 | [],D,_=>⟨D,rfl,fun _ _ h=>.inl h,fun _ h=>h,fun _ h=>(nomatch h)⟩
 | (n, k)::r,D,h=>by
  by_cases hk:k=.free
  ·subst hk
   obtain ⟨c,hc⟩:=h (n,.free) mem_cons_self rfl
   obtain ⟨B,e,g1,Y,g3⟩:=Vm r ((n,c)::D) fun y hy=>h y (mem_cons_of_mem _ hy)
   refine ⟨B,?_,?_,?_,?_⟩
   ·rw [ML]
    have J:cellOf env n=pure c:=by unfold cellOf;rw [hc]
    simp only [beq_self_eq_true,if_true,J,pure_bind]
    exact e
   ·intro y d q
    rcases g1 y d q with q | q
    ·cases hx:y == n with
     | true =>
      have W:y=n:=by simpa using hx
      subst W
      simp only [lookup_cons,beq_self_eq_true] at q
      cases q
      exact .inr hc
     | false=>simp only [lookup_cons,hx] at q;exact .inl q
    ·exact .inr q
   ·intro y q
    apply Y
    cases hx:y == n with
    | true=>simp [lookup_cons,hx]
    | false=>simpa [lookup_cons,hx] using q
   ·intro y hy Z
    rcases mem_cons.mp hy with W | hy
    ·subst W
     apply Y
     simp [lookup_cons]
    ·exact g3 y hy Z
  ·obtain ⟨B,e,g1,Y,g3⟩:=Vm r D fun y hy=>h y (mem_cons_of_mem _ hy)
   refine ⟨B,?_,g1,Y,?_⟩
   ·rw [ML]
    have hb:(k == JE)=false:=by simpa using hk
    simp only [hb,Gx,if_false,pure_bind]
    exact e
   ·intro y hy Z
    rcases mem_cons.mp hy with W | hy
    ·subst W;exact absurd Z hk
    ·exact g3 y hy Z
theorem ZbI {scope:Scope}(h:∀ y∈scope.names,y.2=.free->∃ c,env.cells.lookup y.1=some c):
 ∃ B,closureFor scope env=pure B/\(∀ y c,B.lookup y=some c->env.cells.lookup y=some c)/\∀ y∈scope.names,y.2=.free->B.lookup y.1≠none:=by
 obtain ⟨B,e,D,_,J⟩:=Vm (env:=env) scope.names [] h
 refine ⟨B,?_,fun y c q=>(D y c q).elim (fun z=>by cases z) fun z=>z,J⟩
 simp only [closureFor]
 rw [<- bind_pure (pure B:Sem _),<- e]
def UN (N xs:List Str):List Str:=N.map fun y=>if y∈xs then (if xs.head?=some y then "" else "0") else y
theorem Zbc (N xs:List Str):(UN N xs).length=N.length:=length_map ..
theorem Zkl {N xs:List Str}{y:Str}{i:Nat}(h:(UN N xs)[i]?=some y):(N[i]?=some y/\y ∉ xs)\/y=""\/y="0":=by
 unfold UN at h
 rw [getElem?_map] at h
 cases e:N[i]? with
 | none=>rw [e] at h;cases h
 | some z =>
  rw [e] at h
  have h:(if z∈xs then (if xs.head?=some z then ("":Str) else "0") else z)=y:=Qo h
  by_cases q:z∈xs
  ·rw [if_pos q] at h
   by_cases g:xs.head?=some z
   ·rw [if_pos g] at h;exact .inr (.inl h.symm)
   ·rw [if_neg g] at h;exact .inr (.inr h.symm)
  ·rw [if_neg q] at h;subst h;exact .inl ⟨rfl,q⟩
abbrev UM (N:List Str)(xa xb:Str):List Str:=UN N [xa,xb]
def Ym (X:Cx)(scope:Scope)(xs:List Str)(cl:List (Str×Addr))(C:Addr)(s₀:Qf)(H₀:Hp)(fp:List Addr):Cx :=
 {prog:=X.prog,w:=X.w,K:=X.K,mg:=X.mg,base:=X.base,A:=X.A,N:=UN X.N xs++xs,s₀:=s₀,H₀:=H₀,env:=compEnvC scope cl C X.env,outer:=X.stack,stack:=X.stack,
  ex:=fp,fn:=fun _=>false,calm:=X.calm,pn:=[],xe:=fun _ _=>False }
abbrev ZeB (X:Cx)(scope:Scope)(x:Str):=Ym X scope [x]
abbrev UW (X:Cx)(scope:Scope)(xa xb:Str):=Ym X scope [xa,xb]
structure CompOkN (X:Cx)(scope:Scope)(xs:List Str):Prop where
 nd:(UN X.N xs++xs).Nodup
 clos:∀ y∈scope.names,y.2=.free->X.env.kindOf y.1=some .cell\/X.env.kindOf y.1=some .free
 cell:∀ y∈scope.names,y.2≠.cell
 kind:scope.kind=.function
 names:∀ y∈scope.names,y.2=.local->scope.names.lookup y.1=some .local
 loc:∀ x∈xs,scope.names.lookup x=some .local
 own:∀ y∈X.N,y ∉ xs->scope.names.lookup y≠some .local
 noh:scope.names.lookup ("":Str)=none/\scope.names.lookup ("0":Str)=none
abbrev CompOk (X:Cx)(scope:Scope)(x:Str):=CompOkN X scope [x]
abbrev CompOkT (X:Cx)(scope:Scope)(xa xb:Str):=CompOkN X scope [xa,xb]
def Vo (N:List Str)(names:List (Str×Te))(scope:Scope)(xs:List Str):Bool :=
 decide ((UN N xs++xs).Nodup)&&scope.names.all (fun y=>(y.2 != .free || names.lookup y.1 == some .cell || names.lookup y.1 == some .free)&&(y.2 != .cell&&(y.2 != .local || scope.names.lookup y.1 == some .local))) &&
 ((scope.kind == .function&&xs.all fun x=>scope.names.lookup x == some .local)&&N.all fun y=>decide (y∈xs) || scope.names.lookup y != some .local)&&(scope.names.lookup ("":Str) == none&&scope.names.lookup ("0":Str) == none)
theorem CompOkN.of (N:List Str)(st:Stmt)(W:X.N=N)(hn:X.env.scope=Zk st)(B:Vo N (Zk st).names scope xs=true):CompOkN X scope xs:=by
 unfold Vo at B
 simp only [QO,decide_eq_true_eq,all_eq_true,MM,bne_iff_ne,beq_iff_eq] at B
 obtain ⟨⟨⟨c1,J⟩,⟨Z,c4⟩,c5⟩,c6⟩:=B
 refine ⟨by rw [W];exact c1,fun y D hf=>?_,fun y D=>(J y D).2.1,Z,fun y D Y=>?_,c4,fun y D hx=>(c5 y (by rw [<- W];exact D)).resolve_left hx,c6⟩
 ·show X.env.scope.names.lookup y.1=_\/X.env.scope.names.lookup y.1=_
  rw [hn]
  rcases (J y D).1 with (z | z) | z
  ·exact absurd hf z
  ·exact .inl z
  ·exact .inr z
 ·rcases (J y D).2.2 with z | z
  ·exact absurd Y z
  ·exact z
theorem CompOk.of (N:List Str)(st:Stmt)(B:X.N=N)(D:X.env.scope=Zk st)(z:Vo N (Zk st).names scope [x]=true):CompOk X scope x:=CompOkN.of N st B D z
theorem CompOkT.of (N:List Str)(st:Stmt)(B:X.N=N)(D:X.env.scope=Zk st)(z:Vo N (Zk st).names scope [xa,xb]=true):CompOkT X scope xa xb:=CompOkN.of N st B D z
def ZlE:TT:=fun _ H k=>k true H
def PCs (X:Cx)(cs:List Expr)(tc:TT):Prop:=(cs=[]/\tc=ZlE)\/∃ c,cs=[c]/\PT X c tc
def Vg (J:It)(g:TG)(tc:TT)(te:TE)(n:Nat)(OK:St->St->Prop)(σ:St)(D:Addr)(Q:VK)(H1:Hp):Prop :=
 ∃ W : Nat->Nat->List V->Hp->Prop,(∃ m,W 0 m [] (upd H1 D (.lst [])))/\∀ i m ys H2,W i m ys H2 ->
  (J.stop i H2/\Q (.ref D) H2)\/(J.go i H2/\∃ (N:VK) (M:Hp->Prop),(∀ y H4,N y H4->H4 D=some (.lst ys)/\ys.length < Qi/\∃ m',m' < m/\W (i+1) m' (ys++[y]) (upd H4 D (.lst (ys++[y]))))/\(∀ H4,M H4->∃ m',m' < m/\W (i+1) m' ys H4) /\
   ∀ ws v H3,ws.length=n->J.yld i H2 v H3->g v (σ++ws) H3 fun σ' H'=>OK σ σ'/\tc σ' H' fun b H4=>if b=true then te σ' H4 N else M H4)
def tCW (wi:TI)(CW:It->St->Addr->VK->Hp->Prop):TE:=fun σ H Q=>wi σ H fun J H1=>∀ D,H1 D=none->CW J σ D Q H1
def CompW (J:It)(te:TE)(σ:St)(D:Addr)(Q:VK)(H1:Hp):Prop :=
 ∃ W:Nat->Nat->List V->Hp->Prop,(∃ m,W 0 m [] (upd H1 D (.lst [])))/\∀ i m ys H2,W i m ys H2 ->
  (J.stop i H2/\Q (.ref D) H2)\/(J.go i H2/\∃ N:VK,(∀ y H4,N y H4->H4 D=some (.lst ys)/\ys.length < Qi/\∃ m',m' < m/\W (i+1) m' (ys++[y]) (upd H4 D (.lst (ys++[y]))))/\∀ v H3,J.yld i H2 v H3->te (σ++[some v]) H3 N)
def Zqe (wi:TI)(te:TE):TE:=fun σ H Q=>wi σ H fun J H1=>∀ D,H1 D=none->CompW J te σ D Q H1
section
variable {X:Cx}{elt iter tg:Expr}{cs:List Expr}{xs:List Str}{pos:Pos}{scope:Scope}{wi:TI}{te:TE}{tc:TT}{g:TG}{OK:St->St->Prop}{CW:It->St->Addr->VK->Hp->Prop}
theorem Vn (I:Nat->Qf->Prop)(turn : ∀ n s,I n s->Qp (Qt prog w) A (SH it) (fun r B=>match r with
     | none=>R (.ok .next) B
     | some v=>Qp (Qt prog w) A (Tp z it v) (fun _ s1'=>Qp (Qt prog w) A (Of z env v) (fun _ J=>Qp (Qt prog w) A (forIn cs true fun c r=>if r=true then do let ok <- isTrue c env (eval c env);pure (Jy ok) else pure (Jy r)) (fun ok s2'=>if ok=true then Qp (Qt prog w) A (eval elt env) (fun x Y =>
         Qp (Qt prog w) A (call (.builtin "list.append") [acc,x]) (fun _ W=>∃ m,m < n/\I m W) (fun _ _=>False) Y)
         (fun _ _=>False) s2' else ∃ m,m < n/\I m s2') (fun _ _=>False) J) (fun _ _=>False) s1') (fun _ _=>False) B) (fun _ _=>False) s)(n:Nat)(h:I n s):
   JN (Qt prog w) A (.compLoop (.ListComp elt [⟨z,iter,cs,0⟩] scope pos) 0 it acc env) R s:=by
 refine codeAny_loop rfl I (fun n s hI=>?_) n h
 show Qp _ _ ((compTurn (.ListComp elt [⟨z,iter,cs,0⟩] scope pos) 0 it acc env).onRaise (fun x=>do noteFrame x env;theTreesLotGoes x)) _ _ s
 refine wpAny_noted ?_
 rw [compTurn_list]
 refine Qd (JC (Qd (Gj (turn n s hI) (fun r B Z=>?_) fun _ _ h'=>h'.elim)))
 cases r with
 | none=>exact Qh Z
 | some v =>
   refine Qd (Gj Z (fun _ s1' h1'=>?_) fun _ _ h'=>h'.elim)
   refine Qd (Gj h1' (fun _ J h₂=>Qd (Gj h₂ (fun ok Y D=>?_) fun _ _ h'=>h'.elim)) fun _ _ h'=>h'.elim)
   cases ok with
   | false=>exact Qh ⟨rfl,D⟩
   | true =>
     exact Qd (Qd (Gj D (fun x W h₄=>Qd (Gj h₄ (fun _ s₅ h₅=>Qh (Qh ⟨rfl,h₅⟩)) fun _ _ h'=>h'.elim)) fun _ _ h'=>h'.elim))
theorem PCs.go (h:PCs X cs tc)(pins:List (Addr×Obj))(s:Qf)(σ:St)(H:Hp)(Q:Bool->Hp->Prop)(I:Inv X pins σ H s)(q:tc σ H Q):
 Qp (Qt X.prog X.w) X.A (forIn cs true fun c r=>if r=true then do let ok <- isTrue c X.env (eval c X.env);pure (Jy ok) else pure (Jy r)) (fun b s'=>∃ H',Inv X pins σ H' s'/\Q b H') X.xe s:=by
 rcases h with ⟨rfl,rfl⟩ | ⟨c,rfl,h⟩
 ·exact wpAny_tests_nil ⟨H,I,q⟩
 ·exact wpAny_tests_one (h pins s σ H Q I q)
theorem ZaK {pins:List (Addr×Obj)}{σ:St}{H2:Hp}{Y:Qf}{J:It}{fp:List Addr}{it:Addr}{tn:Nat->Heap->Prop}{cl:List (Str×Addr)}{E:Qb->Qf->Prop}{Q:VK}{RR:Qb->Addr->OU->Qf->Prop}
 (O:CompOkN X scope xs) (hc:X.calm=true) (cl1:∀ y c,cl.lookup y=some c->X.env.cells.lookup y=some c) (cl2:∀ y∈scope.names,y.2=.free->cl.lookup y.1≠none)
 (hOK:∀ σ σ',OK σ σ'->∃ ws:St,ws.length=xs.length/\σ'=σ++ws) (hg:∀ cl C s₀ H₀ fp,PG (Ym X scope xs cl C s₀ H₀ fp) tg g) (hcn:∀ cl C s₀ H₀ fp,PCs (Ym X scope xs cl C s₀ H₀ fp) cs tc) (he:∀ cl C s₀ H₀ fp,PE (Ym X scope xs cl C s₀ H₀ fp) elt te)
 (I2:Inv X pins σ H2 Y) (T:VT X.prog X.w X.K tg J fp it tn) (st:tn 0 Y.heap) (f2:∀ b∈fp,Wd X pins H2 b)
 (h:∀ D,H2 D=none->Vg J g tc te xs.length OK σ D Q H2)
 (hRR:∀ D C H' s',Inv X pins σ H' s'->Wd X pins H' C->(∃ m,s'.heap.Ns C m)->Q (.ref D) H'->RR (.ref D) C (.ok .next) s') :
 Qp (Qt X.prog X.w) X.A (newList []) (fun acc B=>Qp (Qt X.prog X.w) X.A (newFunctionEnv scope X.env.globals cl [] X.env.qual none .none (some X.env)) (fun cenv s₄ =>
  JN (Qt X.prog X.w) X.A (.compStart (.ListComp elt [⟨tg,iter,cs,0⟩] scope pos) 0 (.ref it) acc { cenv with scope:=relabel scope X.env }) (RR acc cenv.locals) s₄) E B) E Y:=by
 have hD:H2 Y.heap.objs.size=none:=I2.hok.fresh (Qe _)
 refine Gg ?_
 have I3:Inv X pins σ (upd H2 Y.heap.objs.size (.lst [])) { Y with heap:=Y.heap.push { cls:=.type "list",data:=.seq ([]:List Qb).toArray } } :=
  I2.laid (t':=Y.toks) (fun b u e=>Qc _ e) (Qe _) ⟨Qw _,[],_,.nil,Qk _ rfl⟩
 have f3:∀ b∈fp,Wd X pins (upd H2 Y.heap.objs.size (.lst [])) b:=fun b Z=>by
  obtain ⟨g0,g1⟩:=f2 b Z
  obtain ⟨o,e,_⟩:=T.obj 0 _ st b Z
  exact ⟨by rw [Zl (Qn (Qj e))];exact g0,g1⟩
 have st3:tn 0 (Y.heap.push { cls:=.type "list",data:=.seq ([]:List Qb).toArray }):=T.keep _ _ _ st fun b Z o e=>Qc _ e
 obtain ⟨W,⟨m0,w0⟩,turn⟩:=h _ hD
 generalize hDe:Y.heap.objs.size=D at I3 f3 w0 turn ⊢
 generalize hH3:upd H2 D (.lst [])=H3 at I3 f3 w0 turn ⊢
 generalize hs3:({ Y with heap:=Y.heap.push { cls:=.type "list",data:=.seq ([]:List Qb).toArray } }:Qf)=B at I3
 have st3':tn 0 B.heap:=by rw [<- hs3];exact st3
 have hobj:∀ b∈fp,b < B.heap.objs.size:=fun b Z=>by
  obtain ⟨o,e,_⟩:=T.obj 0 _ st3' b Z
  exact Qj e
 refine wpAny_newFunctionEnv O.cell (by intro y hy;simp at hy) (fun h₁ hns₁ hsb₁=>?_) O.kind
 have old:∀ b o,B.heap.get? b=some o->h₁.get? b=some o:=fun b o e=>hsb₁.extBut b o (Qn (Qj e)) (Qc _ e)
 generalize hs4:({ B with heap:=h₁,toks:=B.toks+([]:List (Str×Qb)).length }:Qf)=s₄
 have h4:s₄.heap=h₁:=by rw [<- hs4]
 have hX:∀ C,Wd X pins C B.heap.objs.size->True:=fun _ _=>trivial
 have ok':(Ym X scope xs cl B.heap.objs.size B H3 fp).Ok:=by
  refine ⟨I3.ok.mod,O.kind,I3.ok.glob,I3.ok.blt,Qe _,?_,?_,?_,I3.ok.hd,I3.ok.frames,.inl rfl,?_,I3.bs,Qr I3.ok.bsz I3.sz,?_,?_,I3.stack,I3.stkFree⟩
  ·exact fun y z c e1 e2=>I3.ok.inj y z c (cl1 y c e1) (cl1 z c e2)
  ·intro y hk
   have hf:scope.names.lookup y=some .free:=by
    rcases hk with hk | hk
    ·rcases Xa O.cell hk with q | q
     ·exact absurd rfl (O.cell _ (mem_of_lookup q))
     ·exact q.1
    ·rcases Xa O.cell hk with q | q
     ·exact q
     ·cases q.2
   have:=cl2 _ (mem_of_lookup hf) rfl
   cases e:cl.lookup y with
   | none=>exact absurd e this
   | some c=>exact ⟨c,e⟩
  ·intro y c hf;cases hf
  ·intro b Z
   obtain ⟨g0,g1,g2,g3,g4,g5⟩:=f3 b Z
   exact ⟨Qn (hobj b Z),fun y c e=>g4 y c (cl1 y c e)⟩
  ·intro b o e Z
   obtain ⟨g0,g1,g2,g3,g4,g5⟩:=f3 b Z
   rcases g3 with g3 | g3
   ·exact I3.ok.noex b o e g3
   ·exact absurd (Qj e) (Nc.mpr (Qr I3.ok.bsz g3))
  ·intro b Z hs
   obtain ⟨g0,g1,g2,g3,g4,g5⟩:=f3 b Z
   rcases mem_cons.mp (I3.stkSub b hs) with e | e
   ·exact g1 e
   ·exact g2 e
 have I4 : Inv (Ym X scope xs cl B.heap.objs.size B H3 fp) [] (σ++QJ xs.length none) H3 s₄:=by
  obtain ⟨m,hm,hl⟩:=I3.loc
  refine ⟨ok',by rw [<- hs4];rfl,by rw [<- hs4];exact I3.bare,by rw [h4];exact Un.kept old,⟨_,by rw [h4];exact hns₁,?_⟩,?_,I3.hok.fresh (Qe _),fun y c e=>I3.freeC y c (cl1 y c e),?_,by rw [h4];exact I3.hok.kept old,?_⟩
  ·intro i y v e1 e2 e3
   have hlt:i < σ.length:=by
    rcases Pu i σ.length with z | z
    ·exact z
    ·rw [getElem?_append_right z] at e2
     have:=List.eq_of_mem_replicate (mem_of_getElem? e2)
     cases this
   rw [getElem?_append_left hlt] at e2
   have hsm:∃ k,scope.names.lookup y=some k:=by
    rcases e3 with hk | hk | hk
    ·rcases Xa O.cell hk with q | q
     ·exact ⟨_,q⟩
     ·exact ⟨_,q.1⟩
    ·rcases Xa O.cell hk with q | q
     ·exact ⟨_,q⟩
     ·exact ⟨_,q.1⟩
    ·rcases Xa O.cell hk with q | q
     ·exact ⟨_,q⟩
     ·exact ⟨_,q.1⟩
   obtain ⟨e1',hyx⟩:X.N[i]?=some y/\y ∉ xs:=by
    have e1:(UN X.N xs++xs)[i]?=some y:=e1
    rw [getElem?_append_left (by rw [Zbc,<- I3.len];exact hlt)] at e1
    rcases Zkl e1 with z | z
    ·exact z
    ·obtain ⟨k,hk⟩:=hsm
     rcases z with z | z
     ·rw [z,O.noh.1] at hk;cases hk
     ·rw [z,O.noh.2] at hk;cases hk
   have hy:y∈X.N:=mem_of_getElem? e1'
   have hf:scope.names.lookup y=some .free:=by
    rcases e3 with hk | hk | hk
    ·rcases Xa O.cell hk with q | q
     ·exact absurd q (O.own y hy hyx)
     ·exact q.1
    ·rcases Xa O.cell hk with q | q
     ·exact absurd rfl (O.cell _ (mem_of_lookup q))
     ·exact q.1
    ·rcases Xa O.cell hk with q | q
     ·exact q
     ·exact q.1
   have hk:=O.clos _ (mem_of_lookup hf) rfl
   have hv:Vis X.env.scope y:=by rcases hk with z | z;exact .inr (.inl z);exact .inr (.inr z)
   obtain ⟨u,ru,lu⟩:=hl i y v e1' e2 hv
   refine ⟨u,ru,?_⟩
   have hkc:(compEnvC scope cl B.heap.objs.size X.env).kindOf y=some .cell\/(compEnvC scope cl B.heap.objs.size X.env).kindOf y=some .free:=by
    rcases e3 with q | q | q
    ·rcases Xa O.cell q with z | z
     ·exact absurd z (O.own y hy hyx)
     ·cases z.2
    ·exact .inl q
    ·exact .inr q
   rcases lu with ⟨q,_⟩ | ⟨_,c,hcl,hcc⟩
   ·rcases hk with z | z<;>(rw [q] at z;cases z)
   ·refine .inr ⟨hkc,?_⟩
    cases e:cl.lookup y with
    | none=>exact absurd e (cl2 _ (mem_of_lookup hf) rfl)
    | some c' =>
     have:=cl1 y c' e
     rw [hcl] at this
     cases this
     refine ⟨c,e,?_⟩
     rw [h4]
     obtain ⟨oc,ho,hd⟩:=hcc
     exact ⟨oc,old _ _ ho,hd⟩
  ·intro y c e
   obtain ⟨v,oc,ho,hd⟩:=I3.cell y c (cl1 y c e)
   exact ⟨v,oc,by rw [h4];exact old _ _ ho,hd⟩
  ·intro p hp;cases hp
  ·show (σ++QJ xs.length none).length=(UN X.N xs++xs).length
   rw [length_append,length_append,Zbc,I3.len,PL]
 have st4:tn 0 s₄.heap:=by rw [h4];exact T.keep _ _ _ st3' fun b Z o e=>old b o e
 have fpok:∀ {H':Hp},(∀ b∈fp,H' b=none)->∀ b∈fp,Wd (Ym X scope xs cl B.heap.objs.size B H3 fp) [] H' b:=fun hn b Z=>by
  obtain ⟨g0,g1,g2,g3,g4,g5⟩:=f3 b Z
  refine ⟨hn b Z,Qn (hobj b Z),ok'.exfs b Z,.inl Z,fun y c e=>g4 y c (cl1 y c e),?_⟩
  intro p hp;cases hp
 have loop:JN (Qt X.prog X.w) X.A (.compLoop (.ListComp elt [⟨tg,iter,cs,0⟩] scope pos) 0 (.ref it) (.ref D) (compEnvC scope cl B.heap.objs.size X.env)) (RR (.ref D) B.heap.objs.size) s₄:=by
  refine Vn (fun n s'=>∃ i ys ws H',ws.length=xs.length/\Inv (Ym X scope xs cl B.heap.objs.size B H3 fp) [] (σ++ws) H' s'/\tn i s'.heap/\(∀ b∈fp,H' b=none)/\W i n ys H') ?_ m0 ⟨0,[],_,H3,PL,I4,st4,fun b Z=>(f3 b Z).1,w0⟩
  rintro n s5 ⟨i,ys,ws,H5,hws,I5,st5,fr5,w5⟩
  rcases turn i n ys H5 w5 with ⟨stop,q⟩ | ⟨go,N,M,hN,hM,step⟩
  ·refine Zw (T.done (Ym X scope xs cl B.heap.objs.size B H3 fp) rfl rfl rfl hc i [] s5 _ H5 _ I5 (fpok fr5) st5 stop) fun r s6 ⟨hr,I6⟩=>?_
   subst hr
   obtain ⟨m6,hn6,_⟩:=I6.loc
   have IX:Inv X pins σ H5 s6:=I3.call' (ch:=fp) I6.os I6.base I6.hok I6.bare fun b Z=>by
    obtain ⟨g0,g1,g2,g3,g4,g5⟩:=f3 b Z
    exact ⟨g3,g1,g4,g5⟩
   exact hRR D _ H5 s6 IX (I3.fpOk (Qe _) I6.free) ⟨m6,hn6⟩ q
  ·refine Zw (T.item (Ym X scope xs cl B.heap.objs.size B H3 fp) rfl rfl rfl hc i [] s5 _ H5 _ I5 (fpok fr5) st5 go) fun r s6 zz=>?_
   obtain ⟨u,hr,h6⟩:=zz
   subst hr
   refine Zw h6 fun _ s7 zz=>?_
   obtain ⟨v,H7,I7,r7,y7,st7,fr7⟩:=zz
   have I7':=I7.pinned (fpok fr7) (T.obj _ _ st7)
   refine Zw (hg cl B.heap.objs.size B H3 fp _ s7 _ H7 v u _ I7' r7 (step ws v H7 hws y7)) fun _ s8 zz=>?_
   obtain ⟨σ8,H8,I8,o8,q8⟩:=zz
   obtain ⟨ws',hws',e8⟩:=hOK σ σ8 o8
   subst e8
   refine Zw (PCs.go (hcn cl B.heap.objs.size B H3 fp) _ s8 _ H8 _ I8 q8) fun bb s8b zz=>?_
   obtain ⟨H8b,I8b,q8b⟩:=zz
   cases bb with
   | false =>
    obtain ⟨m',hm',w9⟩:=hM H8b q8b
    refine ⟨m',hm',i+1,ys,ws',_,hws',I8b.unpinned (pins:=[]),T.keep _ _ _ st7 fun b Z o e=>(I8b.pin (b,o) (mem_append_right _ (mem_append_right _ (XR Z e)))).1,fun b Z=>?_,w9⟩
    obtain ⟨o,e,d⟩:=T.obj _ _ st7 b Z
    exact (I8b.pin (b,o) (mem_append_right _ (mem_append_right _ (XR Z e)))).2.1
   | true =>
    refine Zw (he cl B.heap.objs.size B H3 fp _ s8b _ H8b _ I8b q8b) fun uy s9 zz=>?_
    obtain ⟨y,H9,I9,r9,n9⟩:=zz
    obtain ⟨hl9,hz9,m',hm',w9⟩:=hN y H9 n9
    refine Zw (Yp (X:=Ym X scope xs cl B.heap.objs.size B H3 fp) _ s9 _ H9 (.ref D) [y] (.ref D) [uy] (fun v H'=>H'=upd H9 D (.lst (ys++[y]))) I9 rfl (.cons r9 .nil) ⟨D,ys,y,rfl,rfl,hl9,hz9,rfl⟩) fun _ s10 zz=>?_
    obtain ⟨_,H10,I10,_,e10⟩:=zz
    subst e10
    refine ⟨m',hm',i+1,ys++[y],ws',_,hws',I10.unpinned (pins:=[]),T.keep _ _ _ st7 fun b Z o e=>(I10.pin (b,o) (mem_append_right _ (mem_append_right _ (XR Z e)))).1,fun b Z=>?_,w9⟩
    obtain ⟨o,e,d⟩:=T.obj _ _ st7 b Z
    exact (I10.pin (b,o) (mem_append_right _ (mem_append_right _ (XR Z e)))).2.1
 exact codeAny_compStart_list loop (T.self _ 0 _ _ _ st4 loop)
theorem Zbk (O:CompOkN X scope xs)(hc:X.calm=true)(hi:PI X tg iter wi)(conv:∀ J σ D Q H,σ.length=X.N.length->CW J σ D Q H->Vg J g tc te xs.length OK σ D Q H)(hOK:∀ σ Z,OK σ Z->∃ ws:St,ws.length=xs.length/\Z=σ++ws)(hg:∀ Y C W B fp,PG (Ym X scope xs Y C W B fp) tg g)(hcn:∀ Y C W B fp,PCs (Ym X scope xs Y C W B fp) cs tc)(he:∀ Y C W B fp,PE (Ym X scope xs Y C W B fp) elt te)
 (hs:∀ v,GA iter X.env v=pure v:=by intro _;rfl):PE X (.ListComp elt [⟨tg,iter,cs,0⟩] scope pos) (tCW wi CW):=by
 intro pins s σ H Q I h
 obtain ⟨Y,hcl,cl1,cl2⟩:=ZbI (scope:=scope) (env:=X.env) fun y hy hf=>I.ok.has _ (O.clos y hy hf)
 rw [eval_ListComp]
 refine SL (use:=none) rfl hs hcl O.kind O.names (Zw (hi pins s σ H _ I h) fun v s1 h1=>Zw h1 fun itv s2 h2=>?_)
 obtain ⟨it,fp,tn,J,H2,e,I2,T,st2,f2,q⟩:=h2
 subst e
 refine ZaK (RR:=fun acc C=>compPost (Qt X.prog X.w) X.A X.xe none (EP X pins σ Q) acc C) O hc cl1 cl2 hOK hg hcn he I2 T st2 f2 (fun z hz=>conv _ _ z _ _ I2.len (q z hz)) ?_
 intro D C H' s' I' ⟨g0,g1,g2,g3,g4,g5⟩ ⟨m,hm⟩ hq
 exact ⟨m,hm,fun h' hs'=>⟨.ref D,H',I'.turned (t':=s'.toks) (fun b o hb e=>(hs'.2 b hb).trans e) g0 g1 g3 g4 g5,rfl,hq⟩⟩
theorem ZfS {i:Nat}(O:CompOkN X scope xs)(hc:X.calm=true)(hN:X.N.Nodup)(hiN:X.N[i]?=some y)(hy:Loc X.env.scope y)(hi:PI X tg iter wi)(conv:∀ J σ D Q H,σ.length=X.N.length->CW J σ D Q H->Vg J g tc te xs.length OK σ D Q H)(hOK:∀ σ σ',OK σ σ'->∃ ws:St,ws.length=xs.length/\σ'=σ++ws)(hg:∀ cl C W B fp,PG (Ym X scope xs cl C W B fp) tg g)(hcn:∀ cl C W B fp,PCs (Ym X scope xs cl C W B fp) cs tc)(he:∀ cl C W B fp,PE (Ym X scope xs cl C W B fp) elt te)(hsw:SX (.ListComp elt [⟨tg,iter,cs,0⟩] scope pos) (some (.Name y Z)) Y.line X.env=pure true)(hf:X.fn y=true\/X.env.scope.names.lookup y=some .local:=by first | exact .inl rfl | exact .inr rfl | assumption)(hs:∀ v,GA iter X.env v=pure v:=by intro _;rfl):PS X (.Assign [.Name y Z] (.ListComp elt [⟨tg,iter,cs,0⟩] scope pos) Y) (ZhV (tCW wi CW) (Vt i)):=by
 intro pins s σ H D I h
 obtain ⟨cl,hcl,cl1,cl2⟩:=ZbI (scope:=scope) (env:=X.env) fun y hy hf=>I.ok.has _ (O.clos y hy hf)
 rw [exec_Assign_Name_used _ _ _ _ hsw]
 refine Qd (JC (Qd ?_))
 show Qp _ X.A (do let _ <- comprehension (.ListComp elt [⟨tg,iter,cs,0⟩] scope pos) scope X.env _ (newList []) false (eval iter X.env) (some (Of (.Name y Z) X.env))) _ _ s
 refine Qd (Gj (SL (use:=some (Of (.Name y Z) X.env)) (Q:=fun _ s'=>SP X pins D .next s') rfl hs hcl O.kind O.names
  (Zw (hi pins s σ H _ I h) fun v s1 h1=>Zw h1 fun itv s2 h2=>?_)) (fun _ s' hq=>Qh (Qh hq)) fun _ _ e=>e)
 obtain ⟨it,fp,tn,J,H2,e,I2,T,st2,f2,q⟩:=h2
 subst e
 refine ZaK (RR:=fun acc C=>compPost (Qt X.prog X.w) X.A X.xe (some (Of (.Name y Z) X.env)) (fun _ s'=>SP X pins D .next s') acc C) O hc cl1 cl2 hOK hg hcn he I2 T st2 f2 (fun z hz=>conv _ _ z _ _ I2.len (q z hz)) ?_
 intro Dl C H' s' I' ⟨g0,g1,g2,g3,g4,g5⟩ ⟨m,hm⟩ hq
 show Qp _ X.A (Of (.Name y Z) X.env (.ref Dl)) _ _ _
 refine Nw (ZdK I' hN hiN hy (v:=.ref Dl) rfl (fun s'' I'' zz=>?_) hf)
 obtain ⟨a,sb,ha⟩:=zz
 have haC:C≠a:=by
  rcases ha with z | z
  ·rw [z];exact g1
  ·exact fun z'=>g4 y a z z'.symm
 exact ⟨m,hm.sameBut sb haC,fun h' hs'=>⟨_,H',I''.turned (t':=s''.toks) (fun b o hb e=>(hs'.2 b hb).trans e) g0 g1 g3 g4 g5,hq⟩⟩
end
theorem ok1:∀ σ z:St,(∃ w,z=σ++[w])->∃ B:St,B.length=[x].length/\z=σ++B:=fun _ _ ⟨w,e⟩=>⟨[w],rfl,e⟩
theorem set1 {n:Nat}(h:σ.length=n):(σ++[w]).set n v=σ++[v]:=by subst h;simp
theorem CompW.n {J:It}{te:TE}{σ:St}{D:Addr}{Q:VK}{H:Hp}{n:Nat}(hn:σ.length=n)(h:CompW J te σ D Q H):Vg J (Vt n) ZlE te 1 (fun σ B=>∃ w,B=σ++[w]) σ D Q H:=by
 obtain ⟨W,w0,t⟩:=h
 refine ⟨W,w0,fun i m ys H2 Z=>(t i m ys H2 Z).imp (fun z=>z) fun zz=>?_⟩
 obtain ⟨go,N,hN,hy⟩:=zz
 refine ⟨go,N,fun _=>False,hN,fun _ z=>z.elim,fun ws v Y hl y=>?_⟩
 match ws,hl with
 | [w],_ =>
  show (∃ w',(σ++[w]).set n (some v)=σ++[w'])/\te ((σ++[w]).set n (some v)) Y N
  rw [set1 hn]
  exact ⟨⟨_,rfl⟩,hy v Y y⟩
section
variable {X:Cx}{elt iter:Expr}{x:Str}{px pos:Pos}{scope:Scope}{wi:TI}{te:TE}
theorem Zjg (O:CompOk X scope x):∀ D C z B fp,PG (Ym X scope [x] D C z B fp) (.Name x px) (Vt X.N.length):=fun D C z B fp =>
 ZI (X:=Ym X scope [x] D C z B fp) O.nd (show (UN X.N [x]++[x])[X.N.length]?=some x by rw [<- Zbc X.N [x]];simp) (.inl (Om (O.loc x (mem_cons_self ..)))) (.inr (Om (O.loc x (mem_cons_self ..))))
theorem WE (O:CompOk X scope x)(Z:X.calm=true)(hi:PI X (.Name x px) iter wi)(W:∀ cl C z B fp,PE (ZeB X scope x cl C z B fp) elt te)
 (hs:∀ v,GA iter X.env v=pure v:=by intro _;rfl):PE X (.ListComp elt [⟨.Name x px,iter,[],0⟩] scope pos) (Zqe wi te) :=
 Zbk (CW:=fun J σ D Q H=>CompW J te σ D Q H) O Z hi (fun _ _ _ _ _ Y h=>h.n Y) ok1 (Zjg O) (fun _ _ _ _ _=>.inl ⟨rfl,rfl⟩) W hs
end
theorem ZgY {lo:Int}{n:Nat}{te:TE}{σ:St}{D:Addr}{Q:VK}{H:Hp}(hn:n<=Qi)(B:Nat->List V->Hp->Prop)(h0:B 0 [] (upd H D (.lst [])))
 (Z:∀ i ys H,B i ys H->ys.length=i)
 (hs:∀ i ys H,i < n->B i ys H->te (σ++[some (.int (lo+i))]) H fun y J=>J D=some (.lst ys)/\B (i+1) (ys++[y]) (upd J D (.lst (ys++[y])))) (hd:∀ ys H,B n ys H->Q (.ref D) H):CompW (Itr lo n) te σ D Q H:=by
 refine ⟨fun i m ys H=>m=n - i/\i<=n/\B i ys H,⟨n,by simp,Qw _,h0⟩,?_⟩
 rintro i m ys H2 ⟨rfl,hi,p⟩
 by_cases z:i < n
 ·have W:=Z i ys _ p
  refine .inr ⟨z,_,fun y J (q:J D=some (.lst ys)/\B (i+1) (ys++[y]) (upd J D (.lst (ys++[y]))))=>⟨q.1,by omega,n - (i+1),by omega,rfl,z,q.2⟩,fun v H3 y=>?_⟩
  obtain ⟨e,Y⟩:=y
  subst e Y
  exact hs i ys _ z p
 ·have e:i=n:=by omega
  subst e
  exact .inl ⟨Qe _,hd ys H2 p⟩
theorem Zkd {K:Qa}{a:Addr}{xs:List V}{te:TE}{σ:St}{D:Addr}{Q:VK}{H:Hp}(hn:xs.length<=Qi)(z:Nat->List V->Hp->Prop)(Z:z 0 [] (upd H D (.lst [])))
 (Y:∀ i ys H,z i ys H->ys.length=i/\SqT K H a xs)
 (hs:∀ i x ys H,xs[i]?=some x->z i ys H->te (σ++[some x]) H fun y J=>J D=some (.lst ys)/\z (i+1) (ys++[y]) (upd J D (.lst (ys++[y])))) (hd:∀ ys H,z xs.length ys H->Q (.ref D) H):CompW (Itt K a) te σ D Q H:=by
 refine ⟨fun i m ys H=>m=xs.length - i/\i<=xs.length/\z i ys H,⟨xs.length,by simp,Qw _,Z⟩,?_⟩
 rintro i m ys H2 ⟨rfl,hi,p⟩
 obtain ⟨W,q⟩:=Y i ys _ p
 by_cases B:i < xs.length
 ·refine .inr ⟨⟨xs,xs[i],q,by simp [B]⟩,_,fun y J (q:J D=some (.lst ys)/\z (i+1) (ys++[y]) (upd J D (.lst (ys++[y]))))=>⟨q.1,by omega,xs.length - (i+1),by omega,rfl,B,q.2⟩,fun v H3 y=>?_⟩
  obtain ⟨e,y⟩:=y
  subst e
  exact hs i v ys _ (y xs q) p
 ·have e:i=xs.length:=by omega
  subst e
  exact .inl ⟨⟨xs,q,Qe _⟩,hd ys H2 p⟩
section
variable {X:Cx}{tg:Expr}
end
section
variable {X:Cx}
theorem XD:Yv X (.builtin "isinstance") (fun xs H Q=>∃ x c t b,xs=[x,.ty c]/\WB X.K H x t/\PySem.W.kitOne X.K t (.type c)=some b/\Q (.bl b) H):=by
 intro pins s σ H xs us Q I r h
 obtain ⟨x,c,t,b,rfl,ty,e,q⟩:=h
 obtain ⟨u,J,rfl,D,z⟩:=Zcx r
 have B:J=GO c:=z
 subst B
 exact ZiC I D ty e fun tk=>⟨.bl b,H,I.tok tk,rfl,q⟩
theorem ZaW (hc:X.calm=true):Yv X (.builtin "all") (fun xs H Q=>∃ (a:Addr) (bs:List Bool),xs=[.ref a]/\SqL X.K H a (bs.map V.bl)/\Q (.bl (bs.all id)) H):=by
 intro pins s σ H xs us Q I r h
 obtain ⟨a,bs,rfl,hq,q⟩:=h
 obtain ⟨u,rfl,ru⟩:=Yr r
 cases ru
 obtain ⟨D,rv,p,hz⟩:=I.list hq
 have B:=rv.length
 rw [length_map] at B
 have Z:a < s.heap.objs.size:=by obtain ⟨_,e,_⟩:=p.isList;exact Qj e
 refine call_all_walk (Pk p.isList ⟨s.heap.objs.size,_,_,_,_,_,fun i=>bs.getD i false,rfl,Walks.list (A:=X.A.in1) (I.ok.hd hc) s.heap.objs.size a (Qn Z) D.toArray,⟨⟨_,Qk _ rfl,rfl,rfl⟩,p.isList.push _⟩,?_,?_⟩)
 ·intro i v s' Q' E' hv hQ'
  have J:D[i]?=some v:=by simpa using hv
  have hi:i < bs.length:=by
   have:=(Qg.mp J).1
   omega
  obtain ⟨u,hu,ru⟩:=rv.get (i:=i) (x:=V.bl bs[i]) (by simp [hi])
  rw [J] at hu
  cases hu
  have e:v=Rm bs[i]:=ru
  subst e
  have W:Q' (bs.getD i false) s':=hQ'
  rw [getD_eq_getElem?_getD,getElem?_eq_getElem hi] at W
  exact Gf W
 ·intro h' tk hk
  have e:(Gn D.toArray.size).all (fun i=>bs.getD i false)=bs.all id:=by
   rw [size_toArray,<- B]
   apply Bool.eq_iff_iff.mpr
   rw [all_eq_true,all_eq_true]
   constructor
   ·intro z b hb
    obtain ⟨i,hi,rfl⟩:=mem_iff_getElem.mp hb
    have:=z i (mem_range.mpr hi)
    rwa [getD_eq_getElem?_getD,getElem?_eq_getElem hi] at this
   ·intro z i hi
    have Y:=mem_range.mp hi
    rw [getD_eq_getElem?_getD,getElem?_eq_getElem Y]
    exact z _ (QS Y)
  rw [e]
  refine ⟨.bl (bs.all id),H,I.kept (t':=tk) fun b o eb=>hk b o ?_ (Qc _ eb),rfl,q⟩
  intro hm
  have:b=s.heap.objs.size:=by simpa using hm
  rw [this] at eb
  exact absurd (Qj eb) (Gz _)
theorem ZgD:∀{ys:List Str}{us:List Qb},Vals (ys.map V.str) us->JO us ys
 | [],_,.nil=>.nil
 | y::ys,_,.cons r t=>by obtain ⟨k,rfl⟩:=r;exact .cons _ _ (ZgD t)
theorem Zgo:MtR X "str.join" (fun x xs H Q=>∃ z a ys,x=.str z/\xs=[.ref a]/\SqL X.K H a (ys.map V.str)/\(ys.map (·.length)).sum+ys.length * z.length<=16777216/\Q (.str (Txt.join z ys)) H):=by
 intro pins s σ H x xs v us Q I D B h
 obtain ⟨z,a,ys,rfl,rfl,W,hz,q⟩:=h
 obtain ⟨t,rfl⟩:=D
 obtain ⟨u,rfl,Y⟩:=Yr B
 cases Y
 obtain ⟨J,r,p,_⟩:=I.list W
 exact join_list p.isList (by simpa using ZgD r) hz fun t' k=>⟨.str _,H,I.tok k,⟨_,rfl⟩,q⟩
theorem Zfr:SlR X (fun x lo hi H Q=>∃ z,x=.str z/\z.length<=Qi/\Q (.str (Txt.slice z lo hi)) H):=by
 intro pins s σ H x v vl vu lo hi sl Q I rx hs pl pu h
 obtain ⟨z,rfl,hz,q⟩:=h
 obtain ⟨t,rfl⟩:=rx
 refine ⟨"str",_,F.slot_str_getitem.lookup,OZ _ _ _,?_⟩
 have B:∀ (t':Tok) (k:Nat),EP X pins σ Q (.str (Txt.slice z lo hi) t') { s with toks:=k }:=fun t' k=>⟨.str _,H,I.tok k,⟨_,rfl⟩,q⟩
 obtain ⟨o,W,D,J⟩:=hs
 cases pl<;>cases pu
 ·exact Jo (l:=none) (u:=none) (st:=none) ⟨_,W,D,J⟩ rfl (Tq ⟨Qr (Txt.slice_le z _ _) hz,B⟩)
 ·rename_i j Z
  exact Jo (l:=none) (u:=some (j,Z)) (st:=none) ⟨_,W,D,J⟩ rfl (Tq ⟨Qr (Txt.slice_le z _ _) hz,B⟩)
 ·rename_i i Y
  exact Jo (l:=some (i,Y)) (u:=none) (st:=none) ⟨_,W,D,J⟩ rfl (Tq ⟨Qr (Txt.slice_le z _ _) hz,B⟩)
 ·rename_i i Y j Z
  exact Jo (l:=some (i,Y)) (u:=some (j,Z)) (st:=none) ⟨_,W,D,J⟩ rfl (Tq ⟨Qr (Txt.slice_le z _ _) hz,B⟩)
end
mutual
inductive DataOf (H:Hp):V->Jh->Prop
 | non:DataOf H .non .none
 | bl (b):DataOf H (.bl b) (.bool b)
 | int (i):DataOf H (.int i) (.int i)
 | str (x):DataOf H (.str x) (.str x)
 | lst {a xs ds}:H a=some (.lst xs)->DatasOf H xs ds->DataOf H (.ref a) (.list ds)
 | tup {a xs ds}:H a=some (.tup xs)->DatasOf H xs ds->DataOf H (.ref a) (.tuple ds)
inductive DatasOf (H:Hp):List V->List Jh->Prop
 | nil:DatasOf H [] []
 | cons {v d vs ds}:DataOf H v d->DatasOf H vs ds->DatasOf H (v::vs) (d::ds)
end
mutual
theorem DataOf.mono (k:∀ a o,H a=some o->H' a=some o):∀{v d},DataOf H v d->DataOf H' v d
 | _,_,.non=>.non
 | _,_,.bl b=>.bl b
 | _,_,.int i=>.int i
 | _,_,.str x=>.str x
 | _,_,.lst h r=>.lst (k _ _ h) (DatasOf.mono k r)
 | _,_,.tup h r=>.tup (k _ _ h) (DatasOf.mono k r)
theorem DatasOf.mono (k:∀ a o,H a=some o->H' a=some o):∀{vs ds},DatasOf H vs ds->DatasOf H' vs ds
 | _,_,.nil=>.nil
 | _,_,.cons r t=>.cons (DataOf.mono k r) (DatasOf.mono k t)
end
section
variable {P:Ql}{w:Qs}{H:Hp}{h:Heap}
mutual
theorem DataOf.reads (z:HOk P w H h):∀{v d}(u:Qb),DataOf H v d->RelV v u->d.hasDict=false/\∃ as,Reads h u d as
 | _,_,u,.non,r=>by cases (show u=.none from r);exact ⟨rfl,_,.none⟩
 | _,_,u,.bl b,r=>by cases (show u=.bool b from r);exact ⟨rfl,_,.bool b⟩
 | _,_,u,.int i,r=>by obtain ⟨t,e⟩:=(show ∃ t,u=.int i t from r);subst e;exact ⟨rfl,_,.int i t⟩
 | _,_,u,.str x,r=>by obtain ⟨t,e⟩:=(show ∃ t,u=.str x t from r);subst e;exact ⟨rfl,_,.str x t⟩
 | _,_,u,.lst (a:=a) (xs:=xs) e q,r=>by
  cases (show u=.ref a from r)
  obtain ⟨_,B,n,J,g⟩:=(show ObjOk P w H h a (.lst xs) from z a _ e)
  obtain ⟨W,as,D⟩:=DatasOf.reads z B q J
  exact ⟨by simpa [On] using W,_,.list g rfl rfl (by simpa using D)⟩
 | _,_,u,.tup (a:=a) (xs:=xs) e q,r=>by
  cases (show u=.ref a from r)
  obtain ⟨_,B,J,o,g,c,n,d⟩:=(show ObjOk P w H h a (.tup xs) from z a _ e)
  obtain ⟨W,as,D⟩:=DatasOf.reads z B q J
  exact ⟨by simpa [On] using W,_,.tuple g c d (by simpa using D)⟩
theorem DatasOf.reads (z:HOk P w H h):∀{vs ds}(us:List Qb),DatasOf H vs ds->Vals vs us->Pw ds=false/\∃ as,ReadsAll h us ds as
 | _,_,_,.nil,.nil=>⟨rfl,_,.nil⟩
 | _,_,_,.cons r t,.cons rv tv=>by
  obtain ⟨J,as,r1⟩:=DataOf.reads z _ r rv
  obtain ⟨D,bs,B⟩:=DatasOf.reads z _ t tv
  exact ⟨by simp [Pw,J,D],_,.cons r1 B⟩
end
end
section
variable {X:Cx}
end
def Def (P:Ql)(w:Qs)(K:Qa)(mg:Str->Option Qb)(base:Heap)(k:Nat)(x:Str)(ps:List Str)(sp:Sp):Prop :=
 ∃ f fd,FnOk P w K mg base ZJ k f fd ps sp/\Binds K fd ps []/\Jn K (.ref f)=true/\mg x=some (.ref f)
theorem Def.mono {P:Ql}{w:Qs}{K:Qa}{mg:Str->Option Qb}{base:Heap}{j k:Nat}{x:Str}{ps:List Str}{sp:Sp}(D:Def P w K mg base j x ps sp)(h:j<=k):Def P w K mg base k x ps sp :=
 let ⟨f,fd,F,b,kp,m⟩:=D;⟨f,fd,F.mono h,b,kp,m⟩
section
variable {X:Cx}{k:Nat}{x:Str}{ps:List Str}{sp:Sp}{p pos:Pos}{e:Expr}{es:List Expr}{t:TA}
theorem ZA (D:Def X.prog X.w X.K X.mg X.base k x ps sp)(Y:Room k X.A)(Z:PA X (e::es) t)(J:Gl X x:=by rfl)(B:(x == ("__debug__":Str))=false:=by decide)
 (W:QH (e::es) X.env=(false,eval e X.env)::QH es X.env:=by rfl) (z:(Jm pos (QH es X.env)).any (·.1)=false:=by rfl) :
 PE X (.Call (.Name x p) (e::es) [] pos) (ZhW sp [] E0 t):=by
 obtain ⟨f,fd,F,b,kp,m⟩:=D
 exact Zne F Y J m kp b .nil ZdY Z B W z
end
def Kp (p:Addr)(H H':Hp):Prop:=∀ q o,q≠p->H q=some o->H' q=some o
theorem Kp.trans (a:Kp p H H1)(b:Kp p H1 H2):Kp p H H2:=fun q o n h=>b q o n (a q o n h)
theorem Kp.upd (p:Addr)(H:Hp)(o:HO):Kp p H (upd H p o):=fun q u n h=>by rw [Zl n];exact h
theorem Same.kp (a:Same H H')(p:Addr):Kp p H H':=fun q o _ h=>a q o h
theorem ZC (h:H p=none)(o:HO):Same H (upd H p o):=fun b u q=>by rw [Zl (Zs q h)];exact q
def BoxAt (H:Hp)(p:Addr)(n:Nat):Prop:=∃ a b c:Int,H p=some (.lst [.int a,.int b,.int c])/\0<=a/\0<=c/\c<=n
theorem BoxAt.same {n:Nat}(h:BoxAt H p n)(s:Same H H'):BoxAt H' p n:=let ⟨a,b,c,e,r⟩:=h;⟨a,b,c,s _ _ e,r⟩
theorem BoxAt.le {n m:Nat}(h:BoxAt H p n)(l:n<=m):BoxAt H p m:=let ⟨a,b,c,e,h1,h2,h3⟩:=h;⟨a,b,c,e,h1,h2,by omega⟩
inductive Zan (M:Int)(vs:List V)(H:Hp)(Q:VK)(w_3:XK):Prop
 | mk (p:Addr) (n:Nat) (m:Int):vs=[.ref p,.int m]->BoxAt H p n->n<=1000000->0 < m->m < M->(∀ (r:Int) (H':Hp),0<=r->r < m->BoxAt H' p (n+1)->Kp p H H'->Q (.int r) H')->Zan M vs H Q w_3
inductive Zft (K:Qa)(vs:List V)(H:Hp)(Q:VK)(w_3:XK):Prop
 | mk (a:Addr) (ns:List Int) (k:Int):vs=[.ref a,.int k]->SqL K H a (ns.map V.int)->0<=k->(∀ (r:Int),Q (.int r) H)->Zft K vs H Q w_3
inductive ZhM (K:Qa)(vs:List V)(H:Hp)(Q:VK)(w_3:XK):Prop
 | mk (a:Addr) (ns:List Int) (k:Int):vs=[.ref a,.int k]->SqL K H a (ns.map V.int)->0<=k->k<=1000->(∀ (p:Addr) (H':Hp),H p=none->BoxAt H' p 0->Same H H'->Q (.ref p) H')->ZhM K vs H Q w_3
theorem Zhf {n:Nat}(h:n<=1000):n<=sizeLine:=GG (ZjD h)
theorem ZbT:∀ (rest:List Str) (z:Array Nat),(rest.foldl (fun z p=>z++(Qq "").cps++p.cps) z).toList=z.toList++rest.flatMap (·.cps.toList)
 | [],z=>by simp
 | p::r,z=>by
  have e:(Qq "").cps=#[]:=by decide +kernel
  rw [RJ,ZbT r,Sx,e]
  simp
theorem Ub:∀ ys:List Str,(Txt.join (Qq "") ys).cps.toList=ys.flatMap (·.cps.toList)
 | []=>rfl
 | y::r=>by
  show (Na (fun z p=>z++(Qq "").cps++p.cps) y.cps r).toList=_
  rw [ZbT];rfl
theorem Yj (x:Str):x.length=x.cps.toList.length:=by simp [Str.length]
theorem Zjv (s e:Int)(i j:Nat)(D:s=i)(z:e=j):Nf s e 1=(Gn (j - i)).map (i+·):=by
 subst D z
 unfold Nf
 simp only [show (1:Int) > 0 by decide,if_true]
 have B:(if (i:Int) < (j:Int) then ((j:Int) - i+1 - 1) / 1 else 0).toNat=j - i:=by
  split
  ·rw [NK];omega
  ·omega
 rw [B]
 apply Jl
 intro k J
 omega
theorem WN (z:Str)(lo hi:Option Int):(Txt.slice z lo hi).cps.toList=(z.cps.toList.drop (HT.sIx z.length 0 lo)).take (HT.sIx z.length z.length hi - HT.sIx z.length 0 lo):=by
 have key:TD lo hi 1 z.length=(Gn (HT.sIx z.length z.length hi - HT.sIx z.length 0 lo)).map (HT.sIx z.length 0 lo+·):=by
  unfold TD
  refine Zjv _ _ _ _ ?_ ?_
  ·cases lo with
   | none=>rfl
   | some i=>simp only [HT.sIx,show (1:Int) > 0 by decide,if_true];split<;>omega
  ·cases hi with
   | none=>rfl
   | some i=>simp only [HT.sIx,show (1:Int) > 0 by decide,if_true];split<;>omega
 have hj:HT.sIx z.length z.length hi<=z.length:=HT.sIx_le _ _ (Qe _) hi
 unfold Txt.slice
 rw [key]
 split
 ·rename_i h
  simp only [beq_self_eq_true,Bool.true_and,length_map,length_range,beq_iff_eq] at h
  have h0:HT.sIx z.length 0 lo=0\/z.length=0:=by omega
  rcases h0 with h0 | h0
  ·rw [h0] at h ⊢
   rw [List.drop_zero,h,Yj,PX]
  ·have e:z.cps.toList=[]:=eq_nil_of_length_eq_zero (by rw [<- Yj];exact h0)
   rw [e];simp
 ·show (List.filterMap (fun k=>z.cps[k]?) ((Gn _).map _)).toArray.toList=_
  rw [Ng]
  generalize HT.sIx z.length 0 lo=i at *
  generalize HT.sIx z.length z.length hi - i=n at *
  have B:∀ (n i:Nat),List.filterMap ((fun k=>z.cps[k]?) ∘ (i+·)) (Gn n)=(z.cps.toList.drop i).take n:=by
   intro n
   induction n with
   | zero=>intro i;simp
   | succ n ih =>
    intro i
    rw [Tr,RV,ih,take_add_one,Nh]
    congr 1
    simp only [filterMap_cons,List.filterMap_nil,Function.comp,QP]
    cases z.cps[i+n]?<;>rfl
  rw [B]
theorem Uz (x y:Str):(x++y).cps.toList=x.cps.toList++y.cps.toList:=by
 show (x.cps++y.cps).toList=_
 simp
theorem Ys (x y:Str):(x++y).length=x.length+y.length:=by rw [Yj,Uz,length_append,<- Yj,<- Yj]
def WD (c:Nat):Bool:=decide (97<=c)&&decide (c<=122)
def sgn (c:Nat):Bool:=decide (32<=c)&&decide (c<=126)
theorem Zii {X:Cx}{K:Qa}(z:X.K=K):Yv X (.builtin "len") (fun xs H Q=>∃ x n,xs=[x]/\ZjT K x H n/\Q (.int n) H):=by subst z;exact Zka
@[reducible] def notStar:Expr->Bool
 | .Starred ..=>false
 | _=>true
theorem Zmi {e:Expr}{es:List Expr}{env:Env}(h:notStar e=true):QH (e::es) env=(false,eval e env)::QH es env:=by
 cases e<;>first | rfl | cases h
section
variable {X:Cx}{k:Nat}{x:Str}{ps:List Str}{sp:Sp}{p pos:Pos}{e:Expr}{es:List Expr}{te:TE}{t:TA}
theorem Wz (z:PE X e te)(B:PA X es t)(h:notStar e=true):PA X (e::es) (Xu te t):=YJ z B (Zmi h)
theorem Zb (z:PE X e te)(B:PA X es t)(h:notStar e=true:=by rfl):PA X (e::es) (Xu te t):=YJ z B (Zmi h)
end
section
variable {X:Cx}
theorem Zbi:Xm X (JR .FloorDiv) (rI (fun _ j=>0 < j/\j < 2 ^ 62) fun i j=>.int (i / j)):=opI fun i j _ _ _ _ _ z q=>by
 have h1:(0:Int) < j:=z.1
 have h2:j < 2 ^ 62:=z.2
 refine floordiv_int (by omega) (by rw [JI i (by omega)];exact q) (.inl (PyProof.noPylong_of_log2 ?_))
 have D:j.natAbs≠0:=by omega
 have B:j.natAbs < 2 ^ 9000:=QA (show j.natAbs < 2 ^ 62 by omega) (Nat.pow_le_pow_right (by decide) (by decide))
 exact (Nat.log2_lt D).mpr B
theorem Zbg:MtR X "str.index" (fun x xs H Q=>∃ z y,x=.str z/\xs=[.str y]/\0<=Txt.find z y/\Q (.int (Txt.find z y)) H):=by
 intro pins s σ H x xs v us Q I D B h
 obtain ⟨z,y,rfl,rfl,hz,q⟩:=h
 obtain ⟨t,rfl⟩:=D
 obtain ⟨u,rfl,J⟩:=Yr B
 obtain ⟨t',rfl⟩:=J
 cases ho:Builtin.Str.occurrences z y 0 z.length 1 with
 | nil => have:Txt.find z y=-1:=by simp [Txt.find,ho]
          omega
 | cons i rest =>
   have e:Txt.find z y=i:=by simp [Txt.find,ho]
   rw [e] at q
   exact call_gives F.slot_str_index (OZ _ _ _) F.entry_str_index (F.args_str_index_2 _ _) (gives_str_index z y t t' i rest ho) ⟨.int i,H,I.tok _,⟨_,rfl⟩,q⟩
end
theorem ZcR (z:List Int):∀ n,n<=z.length->preSum (fun i=>z.getD i 0) n=(z.take n).sum
 | 0,_=>by simp [preSum]
 | n + 1,h=>by
  have B:n < z.length:=h
  have e:(z.take (n+1)).sum=(z.take n).sum+z[n]:=by
   rw [take_add_one,getElem?_eq_getElem B,MN]
   show _+(z[n]+0)=_
   rw [Int.add_zero]
  rw [preSum,ZcR z n (by omega),e,getD_eq_getElem?_getD,getElem?_eq_getElem B]
  rfl
theorem ZjG (z:List Int)(h:∀ i∈z,i.natAbs<=2 ^ 40):z.sum.natAbs<=z.length * 2 ^ 40:=by
 induction z with
 | nil=>simp
 | cons a r ih =>
  have h1:=h a mem_cons_self
  have h2:=ih fun i hi=>h i (mem_cons_of_mem _ hi)
  rw [SM,length_cons]
  omega
theorem Zko {z:List Int}{us:List Qb}(r:Vals (z.map V.int) us){i:Nat}{v:Qb}(h:us[i]?=some v):∃ t,v=.int (z.getD i 0) t:=by
 have J:=r.length
 rw [length_map] at J
 have hi:i < z.length:=by
  have:=(Qg.mp h).1
  omega
 obtain ⟨u,B,D⟩:=r.get (i:=i) (x:=V.int z[i]) (by simp [hi])
 rw [h] at B
 cases B
 obtain ⟨t,e⟩:=D
 exact ⟨t,by rw [e,getD_eq_getElem?_getD,getElem?_eq_getElem hi];rfl⟩
section
variable {X:Cx}
theorem Zkb (hc:X.calm=true):Yv X (.builtin "sum") (fun xs H Q=>∃ (a:Addr) (z:List Int),xs=[.ref a]/\SqL X.K H a (z.map V.int)/\z.length<=1000/\(∀ i∈z,i.natAbs<=2 ^ 40)/\Q (.int z.sum) H):=by
 intro pins s σ H xs us Q I r h
 obtain ⟨a,z,rfl,hq,hn,hb,q⟩:=h
 obtain ⟨u,rfl,ru⟩:=Yr r
 cases ru
 obtain ⟨W,Z,p,hz⟩:=I.list hq
 have B:=Z.length
 rw [length_map] at B
 have J:a < s.heap.objs.size:=by obtain ⟨_,e,_⟩:=p.isList;exact Qj e
 refine call_sum_walk (Pk p.isList ⟨s.heap.objs.size,_,_,_,_,_,fun i=>z.getD i 0,rfl,Walks.list (A:=X.A.in1) (I.ok.hd hc) s.heap.objs.size a (Qn J) W.toArray,⟨⟨_,Qk _ rfl,rfl,rfl⟩,p.isList.push _⟩,?_,?_,?_,?_⟩)
 ·intro b hb
  show b < (s.heap.push _).objs.size
  rw [Gc]
  rcases mem_cons.mp hb with e | hb
  ·rw [e];exact GN _
  ·rw [mem_singleton.mp hb];exact Gi J
 ·intro i v hv
  exact Zko Z (by simpa using hv)
 ·intro j hj
  have D:j < z.length:=by rw [size_toArray] at hj;omega
  have b1:=hb z[j] (QS D)
  have b2:=ZjG (z.take (j+1)) fun i hi=>hb i (Tg hi)
  rw [length_take] at b2
  rw [ZcR z (j+1) D]
  have e0:z.getD j 0=z[j]:=by rw [getD_eq_getElem?_getD,getElem?_eq_getElem D];rfl
  constructor
  ·show InLong (z.getD j 0)
   rw [e0]
   exact ⟨by omega,by omega⟩
  ·have b3:(min (j+1) z.length) * 2 ^ 40<=1000 * 2 ^ 40:=Th _ (by omega)
   exact ⟨by omega,by omega⟩
 ·intro h' tk t' hk
  have e:preSum (fun i=>z.getD i 0) W.toArray.size=z.sum:=by
   rw [size_toArray,<- B,ZcR z _ (Qe _),PX]
  rw [e]
  refine ⟨.int z.sum,H,I.kept (t':=tk) fun b o Y=>hk b o ?_ (Qc _ Y),⟨_,rfl⟩,q⟩
  intro hm
  have:b=s.heap.objs.size:=by simpa using hm
  rw [this] at Y
  exact absurd (Qj Y) (Gz _)
theorem Zdx {P:Ql}:∀{kvs:List (Zj×V)}{vs:List (Zj×Qb)},KV kvs vs->∀(us:List Qb),us.length=vs.length->(∀(j:Nat)(v:Qb),us[j]?=some v->∃ k x,vs[j]?=some (k,x)/\(ZB P w).is k v=true)->Vals (kvs.map fun p=>kV p.1) us
 | _,_,.nil,us,hl,_=>by
  have:us=[]:=eq_nil_of_length_eq_zero (by simpa using hl)
  subst this;exact .nil
 | _,_,.cons r t,us,hl,h=>by
  cases us with
  | nil=>simp at hl
  | cons u ur =>
   obtain ⟨k,x,e,B⟩:=h 0 u rfl
   have J:_=(k,x):=Qo e
   refine .cons ?_ (Zdx t ur (by simpa using hl) fun j v hj=>h (j+1) v (by simpa using hj))
   have D:=r.1
   rw [J] at D
   show RelV (kV _) u
   rw [D]
   rw [Zcb] at B
   rcases Yd B with ⟨i,z,rfl,rfl⟩ | ⟨y,z,rfl,rfl⟩
   ·exact ⟨z,rfl⟩
   ·exact ⟨z,rfl⟩
theorem UV (Y:X.calm=true):Yv X (.type "list") (fun xs H Q=>∃ (d:Addr) (kvs:List (Zj×V)),xs=[.ref d]/\H d=some (.dK kvs)/\∀ l,H l=none->Q (.ref l) (upd H l (.lst (kvs.map fun p=>kV p.1)))):=by
 intro pins s σ H xs us Q I r h
 obtain ⟨d,kvs,rfl,e,q⟩:=h
 obtain ⟨u,rfl,ru⟩:=Yr r
 cases ru
 obtain ⟨hz,lo,vs,J,o,es,ep,ho,r1,r2,r3,r4,r5⟩:=UB I.hok e
 have D:vs.length=kvs.length:=(JB J).symm
 refine PySem.W.kdl_call (PySem.W.kdl_dict (knd:=ZB X.prog X.w) (kvs:=vs) (ep:=ep) lo) (I.ok.hd Y) ⟨o,es,ho,r1,r2,r3,r4,r5⟩ (by rw [D];exact hz) fun h' tk z c' Z hS B=>?_
 have rv:Vals (kvs.map fun p=>kV p.1) z.toList:=Zdx (P:=X.prog) (w:=X.w) J z.toList (by rw [Qu];exact B.1) fun j v hj=>B.2 j v (by rw [<- QP];exact hj)
 exact ⟨.ref s.heap.objs.size,_,I.laid (t':=tk) Z (Qe _) (show ObjOk X.prog X.w _ h' _ (.lst (kvs.map fun p=>kV p.1)) from ⟨by rw [length_map];exact hz,z.toList,c',rv,by rw [GY];exact hS⟩),rfl,q _ (I.hok.fresh (Qe _))⟩
end
section
variable {X:Cx}{tg:Expr}
end
theorem ZbM {prog:Ql}{w:Qs}{A:QL}{B:Addr}{fp:List Addr}{n:Nat}{P:Nat->Qb->Prop}{St:Nat->Heap->Prop}(D:Draws prog w A B fp n P St) :
 Draws prog w A B fp (n+1) (fun i v=>∃ j,i=j+1/\P j v) (fun i h=>∃ j,i=j+1/\St j h) where
 live:=fun i h ⟨j,_,st⟩=>D.live j h st
 frame:=fun i h h' ⟨j,e,st⟩ k=>⟨j,e,D.frame j h h' st k⟩
 item:=fun i s Q E hi ⟨j,e,st⟩ J=>by
  subst e
  exact D.item j s Q E (by omega) st fun x h' tk p z Y=>J x h' tk ⟨j,rfl,p⟩ ⟨j+1,rfl,z⟩ Y
 done:=fun s Q E ⟨j,e,st⟩ W=>by
  have:n=j:=by omega
  subst this
  exact D.done s Q E st W
section
variable {prog:Ql}{w:Qs}{A:QL}{E:Qb->Qf->Prop}{s:Qf}
theorem Zbe (x:Str)(t B:Tok) :
 Meets (GR.«enumerate.__new__» ⟨[.type "enumerate",.str x t],[("start",.int 1 B)]⟩) (fun _ R s =>
  R (.ok (.ret (.ref (s.heap.push { cls:=.type (GM x),data:=.fields #[.str x t,.int 0 0] }).objs.size)))
   {s with heap:=(s.heap.push { cls:=.type (GM x),data:=.fields #[.str x t,.int 0 0] }).push { cls:=.type "enumerate",data:=.fields #[.none,.bool false,.ref s.heap.objs.size,Gb 1,.none,.none] } }) :=
 .of_wp fun prog w A R s h=>by
  obtain ⟨hp,g,d,tk,os⟩:=s
  have z:=sub_enumerate
  wp_walk
  refine wpAny_stack_any fun st=>Qh ?_
  split
  ·rename_i c _ _ _ _ _
   cases (c == GO "enumerate")<;>(wp_walk using NL;exact ⟨_,rfl,h⟩)
  ·wp_walk using NL
   exact ⟨_,rfl,h⟩
end
section
variable {prog:Ql}{w:Qs}{A:QL}{E:Qb->Qf->Prop}{s:Qf}
theorem ZcP (Y:OW (.type T) "__init__"=pure (some (.builtin "object.__init__")))(hm:Bind.madeBy (.type T)=pure (some z))(B:(some z != some "object.__new__")=true):
 Meets (GR.«object.__init__» ⟨[self,a],J⟩) (fun _ R s=>s.TypeIs self T/\R (.ok (.ret .none)) s):=by
 refine Meets.of_wp fun prog w A R s D=>?_
 obtain ⟨Z,W⟩:=D
 repeat (any_goals first | assumption | wp_step)
 exact ⟨_,rfl,W⟩
theorem Zez {T D z:String}{Bn Bi:GR}{args:List Qb}{kw:List (Str×Qb)}{S:PySem.Spec}{Q Q₁:Qb->Qf->Prop}(W:TypeCalled T D z)
 (hct:checkTypeCall T ⟨args,kw⟩=pure ()) (hcn:Rc D ⟨.type T::args,kw⟩=pure ())
 (Z:Oo table D=some Bn) (Y:Oo table z=some Bi) (g:Meets (Bn ⟨.type T::args,kw⟩) S) (h:S A.in1 (wants Q₁ E) s)
 (hnext:∀ obj B,Q₁ obj B->B.TypeIs obj T/\Nb z ⟨obj::args,kw⟩/\∃ Si,Meets (Bi ⟨obj::args,kw⟩) Si/\Si A.in1 (wants (fun r s₂=>r=.none/\Q obj s₂) E) B) :
 Qp (Qt prog w) A (call (.type T) args kw) Q E s:=by
 obtain ⟨c,tl,hmro⟩:=W.mro
 have q1:=W.made
 have q2:=W.sub
 refine Rr (RL (show Qp _ _ (callAny (.type T) _) _ _ _ from Qh ⟨Ni _ (by decide +kernel),Gr F.entry_type_call ?_⟩))
 rw [Nj (RW T args kw) (units_type_call_type T args kw)]
 have q3:=W.notType
 have q4:=W.canCreate
 repeat (any_goals first | assumption | wp_step)
 refine GV (Ti W.plain Z (Tj hcn (g prog w A.in1 _ s h))) fun r B hr=>?_
 rcases r with e | fl
 ·exact hr
 ·cases fl with
  | ret obj =>
   obtain ⟨hT,hok,Si,gi,hsi⟩:=hnext _ _ hr
   have q5:=W.init.lookup
   have q6:=W.init.bind obj
   repeat (any_goals first | assumption | wp_step)
   refine GV (Ti W.init.plain Y (W.init.check _ _ _ _ _ _ _ _ hT hok (gi prog w A.in1 _ B hsi))) fun r₂ s₂ J=>?_
   rcases r₂ with e | fl₂
   ·exact J
   ·cases fl₂ with
    | ret r =>
     obtain ⟨rfl,hq⟩:=J
     repeat (any_goals first | assumption | wp_step)
    | _=>exact J.elim
  | _=>exact hr.elim
theorem VQ (a b:Qb):checkTypeCall "enumerate" ⟨[a],[("start",b)]⟩=pure ():=by kernel_rfl
theorem Zaf (a b:Qb):Rc "enumerate.__new__" ⟨[.type "enumerate",a],[("start",b)]⟩=pure ():=by kernel_rfl
theorem ZbW (o a b:Qb):Nb "object.__init__" ⟨[o,a],[("start",b)]⟩:=by
 unfold Nb
 rw [signature?_of (id:="object.__init__") (n:=['_','_','t','i','n','i','_','_']) (o:=['t','c','e','j','b','o']) (by kernel_rfl) F.owner_object]
 kernel_rfl
theorem ZbF (h:∀ h',IsEnum h' (s.heap.objs.size+1) s.heap.objs.size 1 .none->h'.IsStrIter s.heap.objs.size (GM x) x t 0->h'.objs.size=s.heap.objs.size+2 ->
  (∀ b o,s.heap.get? b=some o->h'.get? b=some o)->Q (.ref (s.heap.objs.size+1)) { s with heap:=h' }):
 Qp (Qt prog w) A (call (.type "enumerate") [.str x t] [("start",.int 1 t1)]) Q E s:=by
 have Y:=F.called_enumerate
 refine Zez (Q₁:=fun obj z=>z.TypeIs obj "enumerate"/\Q obj z) Y (VQ _ _) (Zaf _ _) F.entry_enumerate_new F.entry_object_init (Zbe x t t1) ?_
  (fun obj z Z=>⟨Z.1,ZbW obj _ _,_,ZcP Y.init.lookup Y.made (by decide),Z.1,rfl,Z.2⟩)
 generalize W:({ cls:=.type (GM x),data:=.fields #[.str x t,.int 0 0] }:Obj)=O
 have hz:(s.heap.push O).objs.size=s.heap.objs.size+1:=Gc ..
 generalize B:({ cls:=.type "enumerate",data:=.fields #[.none,.bool false,.ref s.heap.objs.size,Gb 1,.none,.none] }:Obj)=D
 have J:((s.heap.push O).push D).get? (s.heap.objs.size+1)=some D:=by
  have e:=Qk (s.heap.push O) (o:=D) (by rw [<- B];rfl)
  rw [hz] at e;exact e
 have hi:((s.heap.push O).push D).get? s.heap.objs.size=some O:=Qc _ (Qk _ (by rw [<- W];rfl))
 have key:JS { s with heap:=(s.heap.push O).push D } (.ref (s.heap.objs.size+1)) "enumerate"/\Q (.ref (s.heap.objs.size+1)) { s with heap:=(s.heap.push O).push D }:=by
  refine ⟨⟨D,J,by rw [<- B]⟩,h _ (by rw [<- B] at J ⊢;exact J) ⟨O,hi,by rw [<- W],by rw [<- W];rfl⟩ (by rw [Gc,hz]) fun b o y=>Qc _ (Qc _ y)⟩
 rw [<- hz] at key
 exact key
end
theorem Inv.turned2 {X:Cx}{pins:List (Addr×Obj)}{σ:St}{H:Hp}{s:Qf}{h':Heap}{t':Nat}{fp:List Addr}(I:Inv X pins σ H s)(k:∀ b o,b ∉ fp->s.heap.get? b=some o->h'.get? b=some o)(J:∀ b∈fp,Wd X pins H b) :
 Inv X pins σ H { s with heap:=h',toks:=t' }:=by
 have D:∀ b u,H b=some u->b ∉ fp:=fun b u e z=>by rw [(J b z).1] at e;cases e
 refine I.step (g':=s.gens) (d':=s.drawn) (ch:=fp) (fun b hb=>?_) (fun b o _ _ B e _=>k b o B e) (fun b o _ _ B e _=>⟨o.slots,k b o B e⟩) (fun _ _ _ _ n=>n)
  (fun b o B e=>⟨o,k b o B e⟩) (fun _ _ e=>e) (fun _ _ _ e=>e) (fun b ps e=>⟨#[],by rw [e];simp⟩) (fun m hm=>?_) (fun b u e=>?_) I.bare
 ·obtain ⟨f0,Z,f2,f3,Y,f5⟩:=J b hb
  exact ⟨f3,Z,Y,f5⟩
 ·obtain ⟨o,es,ep,W,r⟩:=hm
  exact ⟨o,es,ep,k _ o (fun z=>(J _ z).2.1 rfl) W,r⟩
 ·refine (I.hok b u e).stay (fun c v B q=>k c v ?_ q) (fun _ q=>q) fun _ _ q=>q
  rcases B with z | z
  ·rw [z];exact D b u e
  ·exact D c _ z
theorem UC {prog:Ql}(B:A.handled=none)(z:Addr)(x:Str)(t:Tok):
 Draws prog w A z [z] x.cps.size (fun i v=>∃ c u,x.cps[i]?=some c/\v=.str ⟨#[c]⟩ u) (fun i h=>h.IsStrIter z (GM x) x t i):=by
 cases ha:x.cps.all (· < 128)
 ·have e:GM x="str_iterator":=by simp [GM,ha]
  rw [e];exact Draws.strWide B z x t
 ·have e:GM x="str_ascii_iterator":=by simp [GM,ha]
  rw [e];exact Draws.strAscii B z x t
def Ite (x:Str):It:=⟨fun i _=>i < x.cps.size,fun i H v H'=>∃ t c,H t=none/\x.cps[i]?=some c/\v=.ref t/\H'=upd H t (.tup [.int ((i:Int)+1),.str ⟨#[c]⟩]),fun i _=>x.cps.size<=i⟩
theorem ZjM {P:Ql}{w:Qs}{K:Qa}{elts:List Expr}{x1:Nat}{tp:Pos}(x:Str)(t:Tok)(e J:Addr)(Z:e≠J) :
 VT P w K (.Tuple elts x1 tp) (Ite x) [e,J] e (fun i h=>(∃ B,IsEnum h e J ((i:Int)+1) B)/\h.IsStrIter J (GM x) x t i/\i<=x.cps.size) where
 mem:=by simp
 obj:=fun i h st b hb=>by
  obtain ⟨⟨B,W⟩,⟨o,ho,c,d⟩,_⟩:=st
  rcases mem_cons.mp hb with q | hb
  ·rw [q];exact ⟨_,W,fun v z=>by cases z⟩
  ·rw [mem_singleton.mp hb];exact ⟨o,ho,fun v z=>by rw [d] at z;cases z⟩
 keep:=fun i h h' st k=>by
  obtain ⟨⟨B,W⟩,⟨o,ho,r⟩,hi⟩:=st
  exact ⟨⟨B,k e (by simp) _ W⟩,⟨o,k J (by simp) o ho,r⟩,hi⟩
 item:=by
  intro X hP hw hK hc i pins s σ H E I hf st hg
  subst hP hw hK
  obtain ⟨⟨B,W⟩,hs,hi⟩:=st
  have hlt:i < x.cps.size:=hg
  have D:=ZbM (UC (prog:=X.prog) (w:=X.w) (A:=X.A.in1) (I.ok.hd hc) J x t)
  refine Pd (i:=i+1) D (show IsEnum s.heap e J ((i+1:Nat):Int) B from W) ⟨i,rfl,hs⟩ (by omega) Z (by simpa using Z) fun v h' tk hP hOut Y hT hsz hk=>?_
  obtain ⟨j,ej,c,u,hcc,rfl⟩:=hP
  have ej':i=j:=by omega
  subst ej'
  obtain ⟨j,ej,Y⟩:=Y
  have ej':i+1=j:=by omega
  subst ej'
  have hel:e < s.heap.objs.size:=Qj W
  have hil:J < s.heap.objs.size:=by obtain ⟨o,ho,_⟩:=hs;exact Qj ho
  refine ⟨_,rfl,JK hOut fun h2 he2 hs2=>?_⟩
  generalize hO:({ cls:=.type "tuple",data:=.seq #[.int ((i+1:Nat):Int) tk,.str ⟨#[c]⟩ u] }:Obj)=O at hT
  have I1:Inv X pins σ (upd H s.heap.objs.size (.tup [.int ((i:Int)+1),.str ⟨#[c]⟩])) { s with heap:=s.heap.push O,toks:=tk+1 }:=by
   refine I.laid (t':=tk+1) (fun b o y=>Qc _ y) (Qe _) (show ObjOk X.prog X.w _ _ _ (.tup _) from ⟨by show 2<=Qi;decide,[.int ((i+1:Nat):Int) tk,.str ⟨#[c]⟩ u],.cons ⟨tk,rfl⟩ (.cons ⟨u,rfl⟩ .nil),?_⟩)
   rw [<- hO];exact SY _ _
  have hfree:=I.hok.fresh (Qe s.heap.objs.size)
  have hf2:∀ b∈[e,J],Wd X pins (upd H s.heap.objs.size (.tup [.int ((i:Int)+1),.str ⟨#[c]⟩])) b:=fun b hb=>by
   obtain ⟨f0,f1⟩:=hf b hb
   have hb':b≠s.heap.objs.size:=by
    rcases mem_cons.mp hb with q | hb
    ·rw [q];exact Qn hel
    ·rw [mem_singleton.mp hb];exact Qn hil
   exact ⟨by rw [Zl hb'];exact f0,f1⟩
  have I2:Inv X pins σ (upd H s.heap.objs.size (.tup [.int ((i:Int)+1),.str ⟨#[c]⟩])) { s with heap:=h2,toks:=tk+1 }:=by
   refine I1.turned2 (t':=tk+1) (h':=h2) (fun b o hb y=>?_) hf2
   have hbe:b≠e:=fun q=>hb (by simp [q])
   have hbi:b≠J:=fun q=>hb (by simp [q])
   rw [hs2.2 b hbe]
   rcases Tk y with ⟨q1,q2⟩ | y
   ·rw [q1,q2];exact hT
   ·exact hk b o hbe hbi y
  refine ⟨.ref s.heap.objs.size,_,I2,rfl,⟨s.heap.objs.size,c,hfree,hcc,rfl,rfl⟩,⟨⟨_,he2⟩,?_,hlt⟩,fun b hb=>(hf2 b hb).1⟩
  obtain ⟨o,ho,r⟩:=Y
  exact ⟨o,by rw [hs2.2 J Z.symm];exact ho,r⟩
 done:=by
  intro X hP hw hK hc i pins s σ H E I hf st hg
  subst hP hw hK
  obtain ⟨⟨B,W⟩,hs,hi⟩:=st
  have hle:x.cps.size<=i:=hg
  have D:=ZbM (UC (prog:=X.prog) (w:=X.w) (A:=X.A.in1) (I.ok.hd hc) J x t)
  have ei:i=x.cps.size:=by omega
  rw [ei] at hs
  obtain ⟨f0,f1,f2,f3,f4,f5⟩:=hf J (by simp)
  exact RB D W ⟨_,rfl,hs⟩ fun h' eb=>⟨rfl,I.turned (t':=s.toks) (fun b o hb y=>eb b o hb y) f0 f1 f3 f4 f5⟩
 self:=fun _ _ _ _ _ st h=>by
  obtain ⟨⟨B,W⟩,_⟩:=st
  exact GZ W h
theorem ZaV (h1:args.any (·.1)=false)(h2:kws.any (·.1.isNone)=false)(h:Qp M A (evalArgs (.type T) true args kws) (fun a z=>Qp M A (call (.type T) a.pos a.kw) Q E z) E s):Qp M A (Oi pos (.type T) [] args kws) Q E s:=by
 unfold Oi
 refine Qd (QX (Zw h fun a z q=>Qd (JC ?_)))
 simp only [h1,h2,OJ]
 refine Qd (Qh (Qd (Zw q fun r B D=>?_)))
 exact Qd (QX (wpAny_point (Qh D)))
def Zod (tl:TE):TI:=fun σ H R=>tl σ H fun v H1=>∃ x,[v]=[V.str x]/\R (Ite x) H1
section
variable {X:Cx}
theorem ZkT {x1 j:Nat}(hg:Gl X "enumerate")(hm:X.mg "enumerate"=none)(hl:PE X l tl)(W:QH [l] X.env=[(false,eval l X.env)]:=by rfl):PI X (.Tuple B x1 tp) (.Call (.Name "enumerate" p) [l] [⟨some "start",.Constant (.int 1) j kp,kpos⟩] pos) (Zod tl):=by
 intro pins s σ H R I h
 have ha:PA X [l] (Xu tl Xr):=YJ hl Za W
 have hk:PK X [⟨some "start",.Constant (.int 1) j kp,kpos⟩] (Xu (tC (.int 1)) Xr):=Znj Zd ZoK
 refine Gk (WT I hg hm Op (ZaV (by rw [W];rfl) rfl (evalArgs_kw2 rfl ?_ W)))
 refine Zw (ha pos pins s σ H (fun vs H1=>∃ x,vs=[V.str x]/\R (Ite x) H1) I h) fun us s1 Y=>?_
 obtain ⟨vs,H1,I1,r1,x,e,q⟩:=Y
 subst e
 obtain ⟨u,rfl,t,rfl⟩:=Yr r1
 refine Zw (hk pos pins s1 σ H1 (fun vs H2=>vs=[V.int 1]/\H2=H1) I1 ⟨rfl,rfl⟩) fun ws s2 Y=>?_
 obtain ⟨zs,H2,D,r2,e1,e2⟩:=Y
 subst e1 e2
 obtain ⟨u',rfl,t',rfl⟩:=Yr r2
 refine ZbF fun h' hE Z hsz J=>GZ hE ?_
 refine ⟨s2.heap.objs.size+1,[s2.heap.objs.size+1,s2.heap.objs.size],_,_,H2,rfl,D.kept (t':=s2.toks) J,ZjM x t _ _ (Re _),⟨⟨_,hE⟩,Z,Qw _⟩,fun b hb=>?_,q⟩
 rcases mem_cons.mp hb with z | hb
 ·rw [z];exact D.fpOk (Gh _) (D.hok.fresh (Gh _))
 ·rw [mem_singleton.mp hb];exact D.fpOk (Qe _) (D.hok.fresh (Qe _))
end
theorem Zkh {x:Str}{g:TG}{tb:TS}{D:YF}{σ:St}{H:Hp}(J:Nat->St->Hp->Prop)(h0:J 0 σ H)
 (hs:∀ i c t σ H,x.cps[i]?=some c->H t=none->J i σ H->g (.ref t) σ (upd H t (.tup [.int ((i:Int)+1),.str ⟨#[c]⟩])) fun B H2=>tb { D with nx:=J (i+1),ct:=J (i+1),bk:=D.nx } B H2) (hd:∀ σ H,J x.cps.size σ H->D.nx σ H) :
 ∃ W:Nat->Nat->St->Hp->Prop,(∃ m,W 0 m σ H)/\∀ i m σ H,W i m σ H ->
  ((Ite x).stop i H/\D.nx σ H)\/((Ite x).go i H/\∃ N:St->Hp->Prop,(∀ Y H',N Y H'->∃ m',m' < m/\W (i+1) m' Y H')/\∀ y H',(Ite x).yld i H y H'->g y σ H' fun B H2=>tb { D with nx:=N,ct:=N,bk:=D.nx } B H2):=by
 refine ⟨fun i m σ H=>m=x.cps.size - i/\i<=x.cps.size/\J i σ H,⟨x.cps.size,by simp,Qw _,h0⟩,?_⟩
 rintro i m σ H ⟨rfl,hi,p⟩
 by_cases Z:i < x.cps.size
 ·refine .inr ⟨Z,J (i+1),fun Y H' p'=>⟨x.cps.size - (i+1),by omega,rfl,Z,p'⟩,fun y H' z=>?_⟩
  obtain ⟨t,c,e1,e2,e3,e4⟩:=z
  subst e3 e4
  exact hs i c t σ _ e2 e1 p
 ·have e:i=x.cps.size:=by omega
  subst e
  exact .inl ⟨Qe _,hd σ H p⟩
end L2
namespace L2
open PySem PySem.W PySem.Spec PyProof.Rows
def ZaS (ks:List Str)(vs out:List Qb):Prop:=∃ ps:List (Str×Qb),ps.Perm (ks.zip vs)/\out=ps.map (·.2)/\ps.Pairwise fun p q=>¬ (q.1.cps.toList < p.1.cps.toList)
theorem ZfI:∀{keys:List Qb}{ks:List Str}(_:JO keys ks)(vs:List Qb),(keys.zip vs).map (fun p=>(RM p.1,p.2))=ks.zip vs
 | _,_,.nil,vs=>rfl
 | _,_,.cons x t h,[]=>rfl
 | _,_,.cons x t h,v::vs=>by
  rw [List.zip_cons_cons,map_cons,ZfI h vs];rfl
theorem ZkO {keys:Array Qb}{vs:List Qb}{ks:List Str}(Z:JO keys.toList ks){xs:Array Keyed}(hp:xs.Perm (keys.zip vs.toArray))(hs:SortedToK strKind xs xs.size):ZaS ks vs (xs.map (·.2)).toList:=by
 have Y:xs.toList.Perm (keys.toList.zip vs):=by
  have:=TX.mp hp
  rwa [ksk_zip] at this
 refine ⟨xs.toList.map fun p=>(RM p.1,p.2),?_,?_,?_⟩
 ·have:=Y.map fun p=>(RM p.1,p.2)
  rwa [ZfI Z] at this
 ·rw [Ml,map_map];rfl
 ·rw [pairwise_map,GS]
  intro i j hi hj W
  have J:i < xs.size:=by simpa using hi
  have D:j < xs.size:=by simpa using hj
  have z:∀ m (hm:m < xs.size),KK strKind xs m=(RM xs[m].1).cps.toList:=fun m hm=>by
   have B:xs[m]∈keys.toList.zip vs:=Y.mem_iff.mp (by simp)
   have h1:=(of_mem_zip (show (xs[m].1,xs[m].2)∈_ from B)).1
   obtain ⟨x,t,e⟩:=Z.all _ h1
   rw [KK_str hm (x:=x) (t:=t) (q:=xs[m].2) (by rw [<- e])]
   rw [e];rfl
  have h:=hs i j (GG W) D
  rw [z i J,z j D] at h
  simpa [KeyOrd.kle] using h
theorem ZiG {keys:Array Qb}{vs:List Qb}{ks:List Str}(z:JO keys.toList ks):KeysOf strKind (keys.zip vs.toArray):=by
 intro p hp
 rw [ksk_zip] at hp
 obtain ⟨x,t,e⟩:=z.all _ (of_mem_zip (show (p.1,p.2)∈_ from hp)).1
 exact ⟨x.cps.toList,by rw [e]⟩
theorem ZiH (z:JO keys.toList ks)(h2:2<=keys.size):keyKind' keys=pure oneType':=by
 obtain ⟨l⟩:=keys
 match l,z,h2 with
 | [],_,h2=>simp at h2
 | [_],_,h2=>simp at h2
 | v₁::v₂::r,z,_=>exact keyKind_strs z
theorem ZdJ :∀{vs:List Qb}{z:List Str},JO vs z->JO (vs++[.str x t]) (z++[x])
 | _,_,.nil=>.cons x t .nil
 | _,_,.cons y u h=>.cons y u (ZdJ h)
section
variable {prog:Ql}{w:Qs}{A:QL}{E:Qb->Qf->Prop}{s:Qf}{a kS:Addr}{vs:List Qb}{ks:List Str}{keys:Array Qb}{e e1:Nat}{P:PySem.Fin->Qf->Prop}
theorem Zcm {st:SortSt}(nk:s.heap.get? kS=some (QU "list" keys e))(na:s.heap.get? a=some (QU "list" #[] e1))(W:kS≠a)(hk:JO keys.toList ks)(hlen:ks.length=vs.length)(h64:vs.length < 64)
 (hp:(Gs st).Perm (keys.zip vs.toArray)) (hs:SortedToK strKind (Gs st) (Gs st).size) (D:failedOf st=none)
 (h:∀ h' tk out c,(∀ b o,b≠a->b≠kS->s.heap.get? b=some o->h'.get? b=some o)->h'.get? a=some (QU "list" out c)->ZaS ks vs out.toList->P (.done (.ret .none)) { s with heap:=h',toks:=tk }) :
 Qp (Qt prog w) A (ksk_tail a false e1 (.ref kS) st) P E s:=by
 have hsz:keys.size=vs.length:=by have:=hk.length;rw [Qu] at this;omega
 have B:(Gs st).size=vs.length:=by rw [hp.size_eq,Array.size_zip,hsz,size_toArray,NM]
 have s1:=QI s.heap kS (QC fun _=>(#[]:Array Qb))
 have z:(s.heap.update kS (QC fun _=>(#[]:Array Qb))).get? a=some (QU "list" #[] e1):=(s1.2 a W.symm).trans na
 have s2:=QI (s.heap.update kS (QC fun _=>(#[]:Array Qb))) a (QC fun _=>(Gs st).map (·.2))
 obtain ⟨J,Y⟩:∃ J,((s.heap.update kS (QC fun _=>(#[]:Array Qb))).update a (QC fun _=>(Gs st).map (·.2))).get? a=some (QU "list" ((Gs st).map (·.2)) J):=⟨_,JW z fun _=>(Gs st).map (·.2)⟩
 unfold ksk_tail
 try dsimp only
 refine Qd (SN nk rfl ?_ (by rw [hsz,QY];omega) (Qw _))
 refine Qd (wpAny_letGo (Qd (seqEpoch_at z rfl ?_)))
 refine Qd (SN z rfl ?_ (Qw _) (Qr (Tw (show ((Gs st).map (·.2)).size=vs.length by rw [Array.size_map];exact B)) (by rw [QY];omega)))
 rw [D]
 simp only [bne_self_eq_false,Gx,if_false]
 exact Qh (h _ _ _ J (fun b o hb1 Z y=>(s2.2 b hb1).trans ((s1.2 b Z).trans y)) Y (ZkO hk hp hs))
theorem ZjE (nk:s.heap.get? kS=some (QU "list" keys e))(na:s.heap.get? a=some (QU "list" #[] e1))(Y:kS≠a)(W:JO keys.toList ks)(B:ks.length=vs.length)(J:vs.length < 64)
 (h:∀ h' tk out c,(∀ b o,b≠a->b≠kS->s.heap.get? b=some o->h'.get? b=some o)->h'.get? a=some (QU "list" out c)->ZaS ks vs out.toList->P (.done (.ret .none)) { s with heap:=h',toks:=tk }) :
 Qp (Qt prog w) A (ksk_end a false vs.toArray e1 (.ref kS) keys) P E s:=by
 have hsz:keys.size=vs.length:=by have:=W.length;rw [Qu] at this;omega
 have D:(keys.zip vs.toArray).size=vs.length:=by rw [Array.size_zip,hsz,size_toArray,NM]
 unfold ksk_end
 simp only [Gx,if_false]
 by_cases h2:vs.toArray.size < 2
 ·rw [if_pos h2,if_pos h2]
  refine Qd (Qh ?_)
  rw [StateT.run_pure]
  refine Qd (Qh ?_)
  try dsimp only
  refine Zcm (st:=SortSt.mk' general' (keys.zip vs.toArray) #[] 7 none) nk na Y W B J (MO _) ?_ rfl h
  intro i j hij hj
  have Z:j < (keys.zip vs.toArray).size:=hj
  rw [D] at Z
  rw [size_toArray] at h2
  have:i=j:=by omega
  subst this
  exact KeyOrd.kle_refl _
 ·rw [if_neg h2,if_neg h2]
  rw [size_toArray] at h2
  rw [ZiH W (by rw [hsz];omega)]
  refine Qd (Qh (Qd (Gj (wpS_sortRunsK (κ:=strKind) strKind_oneLt (a₀:=keys.zip vs.toArray) (st:=SortSt.mk' oneType' (keys.zip vs.toArray) #[] 7 none)
   (Q:=fun _ z=>(Gs z).Perm (keys.zip vs.toArray)/\failedOf z=none/\SortedToK strKind (Gs z) (keys.zip vs.toArray).size)
   (ZiG W) ⟨MO _,rfl,rfl,rfl⟩ (by rw [D];omega) (by rw [D];exact J) fun z a1 a2 a3=>⟨a1,a2,a3⟩) ?_ fun _ _ y=>y)))
  rintro ⟨⟨⟩,z⟩ s' ⟨rfl,hp,hf,hs⟩
  try dsimp only
  exact Zcm nk na Y W B J hp (by rw [hp.size_eq];exact hs) hf h
def Zcy (prog:Ql)(w:Qs)(A:QL)(s:Qf)(a:Addr)(f:Qb)(vs:List Qb)(ks:List Str):Prop :=
 ∀ (i:Nat) (v:Qb) (k:Str),vs[i]?=some v->ks[i]?=some k->∀ (h:Heap) (tk:Nat),(∀ b o,b≠a->s.heap.get? b=some o->h.get? b=some o)->s.heap.objs.size<=h.objs.size->∀ Q':Qb->Qf->Prop,
  (∀ h' tk' t,(∀ b o,h.get? b=some o->h'.get? b=some o)->h.objs.size<=h'.objs.size->Q' (.str k t) { s with heap:=h',toks:=tk' })->Qp (Qt prog w) A (call f [v]) Q' (fun _ _=>False) { s with heap:=h,toks:=tk }
theorem ZhK {s0:Qf}(Z:∃ tk,s={ s0 with heap:=s.heap,toks:=tk })(k0:∀ b o,b≠a->s0.heap.get? b=some o->s.heap.get? b=some o)(z0:s0.heap.objs.size<=s.heap.objs.size)(hkn:s0.heap.objs.size<=kS)(nk:s.heap.get? kS=some (QU "list" #[] 0))(na:s.heap.get? a=some (QU "list" #[] e1))(hka:kS≠a)(hlen:ks.length=vs.length)(h64:vs.length < 64)(turn:Zcy prog w A s0 a f vs ks)(h:∀ h' tk out c,(∀ b o,b≠a->s0.heap.get? b=some o->h'.get? b=some o)->h'.get? a=some (QU "list" out c)->ZaS ks vs out.toList->P (.done (.ret .none)) { s0 with heap:=h',toks:=tk }):
 Qp (Qt prog w) A (ksk_rest a f false vs.toArray e1 (.ref kS)) P E s:=by
 obtain ⟨tk0,Z⟩:=Z
 unfold ksk_rest
 refine Qd (PR ?_)
 first
  | rw [List.forIn_toArray]
  | (rw [<- Array.forIn_toList];simp only [OD])
 refine Qd (ksk_fold (fun i s'=>∃ h' tk D c,s'={ s0 with heap:=h',toks:=tk }/\(∀ b o,b≠a->s0.heap.get? b=some o->h'.get? b=some o)/\s0.heap.objs.size<=h'.objs.size/\h'.get? kS=some (QU "list" D c)/\h'.get? a=some (QU "list" #[] e1)/\JO D.toList (ks.take i)) vs 0 s
  ⟨s.heap,tk0,#[],0,Z,k0,z0,nk,na,by simpa using StrsAre.nil⟩ ?step ?done)
 case step =>
  rintro j x s' hx ⟨h',tk,D,c,rfl,k1,z1,W,Y,hk⟩
  simp only [Nat.zero_add] at hk ⊢
  have hj:j < vs.length:=(Qg.mp hx).1
  obtain ⟨k,hkj⟩:∃ k,ks[j]?=some k:=⟨_,getElem?_eq_getElem (by omega)⟩
  have hz:D.size<=vs.length:=by
   have h1:=hk.length
   rw [Qu,length_take] at h1
   omega
  refine Qd (OM (Gj (turn j x k hx hkj h' tk k1 z1 (fun v s''=>∃ g J B,v=.str k B/\s''={ s0 with heap:=g,toks:=J }/\(∀ b o,h'.get? b=some o->g.get? b=some o)/\h'.objs.size<=g.objs.size) (fun g J B q z=>⟨g,J,B,rfl,rfl,q,z⟩)) (fun v s'' he=>?_) fun _ _ hF=>hF.elim))
  obtain ⟨g,J,B,rfl,rfl,k2,z2⟩:=he
  try dsimp only
  have nk2:=k2 _ _ W
  have na2:=k2 _ _ Y
  have s1:=QI g kS (QC (·.push (.str k B)))
  obtain ⟨c2,hc2⟩:∃ c2,(g.update kS (QC (·.push (.str k B)))).get? kS=some (QU "list" (D.push (.str k B)) c2):=⟨_,JW nk2 (·.push (.str k B))⟩
  have ek:ks.take (j+1)=ks.take j++[k]:=by rw [take_add_one,hkj];simp
  have ea:(D.push (Pb k B)).toList=D.toList++[Pb k B]:=by simp
  refine Qd (SN nk2 rfl ?_ (by rw [QY];omega) (Qr (Tw (Array.size_push ..)) (by rw [QY];omega)))
  refine Qh ⟨rfl,_,_,D.push (.str k B),c2,rfl,fun b o hb y=>?_,Qr (Qr z1 z2) (Tw (Rf ..).symm),hc2,(s1.2 a hka.symm).trans na2,by rw [ea,ek];exact ZdJ hk⟩
  exact (s1.2 b (fun z=>by rw [z] at y;exact absurd (Qj y) (Nc.mpr hkn))).trans (k2 _ _ (k1 b o hb y))
 case done =>
  rintro s' ⟨h',tk,D,c,rfl,k1,z1,W,Y,hk⟩
  have hk':JO D.toList ks:=by
   have e3:ks.take (0+vs.length)=ks:=take_of_length_le (by omega)
   rw [e3] at hk
   exact hk
  try dsimp only
  refine Qd (listItems_at W rfl ?_)
  refine ZjE W Y hka hk' hlen h64 fun h3 tk3 out c3 k3 a3 o3=>h h3 tk3 out c3 (fun b o hb y=>k3 b o hb (fun z=>?_) (k1 b o hb y)) a3 o3
  rw [z] at y
  exact absurd (Qj y) (Nc.mpr hkn)
theorem ZhL {n:Nat}(W:s.heap.get? a=some (QU "list" vs.toArray n))(D:ks.length=vs.length)(Y:vs.length < 64)(B:Zcy prog w A s a f vs ks)(h:∀ h' tk out c,(∀ b o,b≠a->s.heap.get? b=some o->h'.get? b=some o)->h'.get? a=some (QU "list" out c)->ZaS ks vs out.toList->P (.done (.ret .none)) { s with heap:=h',toks:=tk }):
 Qp (Qt prog w) A (ksk_tree a f false) P E s:=by
 have Z:a < s.heap.objs.size:=Qj W
 have s1:=QI s.heap a (QC fun _=>(#[]:Array Qb))
 obtain ⟨e1,J⟩:∃ e1,(s.heap.update a (QC fun _=>(#[]:Array Qb))).get? a=some (QU "list" #[] e1):=⟨_,JW W fun _=>#[]⟩
 have z:((s.heap.update a (QC fun _=>(#[]:Array Qb))).push (QU "tuple" vs.toArray 0)).objs.size=s.heap.objs.size+1:=by rw [Nk,Rf]
 unfold ksk_tree
 refine Qd (listItems_at W rfl ?_)
 refine Qd (SN W rfl ?_ (by rw [size_toArray,QY];omega) (Qw _))
 refine Qd (seqEpoch_at J rfl (Qd (wpAny_newTuple ?_ (by show vs.length<=_;rw [QY];omega))))
 refine Qd (SO ?_ (Qw _))
 refine QX ?_
 refine ZhK (s0:=s) (s:={ s with heap:=((s.heap.update a (QC fun _=>(#[]:Array Qb))).push (QU "tuple" vs.toArray 0)).push (QU "list" #[] 0) }) (kS:=((s.heap.update a (QC fun _=>(#[]:Array Qb))).push (QU "tuple" vs.toArray 0)).objs.size)
  ⟨s.toks,rfl⟩ (fun b o hb y=>Qc _ (Qc _ ((s1.2 b hb).trans y))) ?_ (by rw [z];exact Gh _) (Qk _ rfl) (Qc _ (Qc _ J)) (by rw [z];exact GI (Gi Z)) D Y B h
 show s.heap.objs.size<=(((s.heap.update a _).push _).push _).objs.size
 rw [Nk,z];omega
theorem Znt (hl:s.heap.IsList l vs.toArray)(D:ks.length=vs.length)(Y:vs.length < 64)(ht:∀ x,GR.«list.sort» ⟨[.ref x],[(Qq "key",f)]⟩=ksk_tree x f false)(B:∀ (h1:Heap) (W:Nat),(∀ b o,s.heap.get? b=some o->h1.get? b=some o)->s.heap.objs.size<=h1.objs.size->Zcy prog w A.in1.in1 { s with heap:=h1,toks:=W } (s.heap.objs.size+1) f vs ks)(h:∀ h' tk out c,(∀ b o,s.heap.get? b=some o->h'.get? b=some o)->h'.get? (s.heap.objs.size+1)=some (QU "list" out c)->ZaS ks vs out.toList->Q (.ref (s.heap.objs.size+1)) { s with heap:=h',toks:=tk }):
 Qp (Qt prog w) A (call (.builtin "sorted") [.ref l] [(Qq "key",f)]) Q E s:=by
 refine call_function_entry_kw MC NN NO (ksk_s1 _ _) ?_
 unfold GR.«sorted»
 refine Qd (m:=checkCount "sorted" 1 1 _) (Qh ?_)
 refine Qd (collect_list hl ?_ (by rw [QY];omega))
 refine Qd (SO ?_ (by rw [QY];omega))
 generalize hg:(s.heap.push (QU "list" #[] 0)).update s.heap.objs.size (QC (·++vs.toArray))=g
 have hsz:g.objs.size=s.heap.objs.size+1:=by rw [<- hg,Rf,Nk]
 have kg:∀ b o,s.heap.get? b=some o->(g.push (QU "list" vs.toArray 0)).get? b=some o:=fun b o q=>by
  have z:b < s.heap.objs.size:=Qj q
  rw [NP _ _ _ (by rw [hsz];exact Qn (Gi z)),<- hg,Heap.get?_update_ne _ _ _ _ (Qn z),NP _ _ _ (Qn z)]
  exact q
 have J:(g.push (QU "list" vs.toArray 0)).get? (s.heap.objs.size+1)=some (QU "list" vs.toArray 0):=by rw [<- hsz];exact Qk _ rfl
 show Qp _ _ _ _ _ { s with heap:=g.push (QU "list" vs.toArray 0) }
 rw [hsz]
 refine Qd (QX (wpAny_call_entry_kw Oq ⟨_,J,rfl⟩ RN ?body (ksk_l1 _ _)))
 show Qp (Qt prog w) A.in1.in1 (GR.«list.sort» ⟨[.ref (s.heap.objs.size+1)],[(Qq "key",f)]⟩) _ _ _
 rw [ht]
 have Z:s.heap.objs.size<=(g.push (QU "list" vs.toArray 0)).objs.size:=by rw [Nk,hsz];omega
 refine ZhL (s:={ s with heap:=g.push (QU "list" vs.toArray 0) }) J D Y (B (g.push (QU "list" vs.toArray 0)) s.toks kg Z) fun h' tk out c k3 a3 o3=>⟨_,rfl,?_⟩
 exact Qh ⟨_,rfl,h h' tk out c (fun b o y=>k3 b o (Qn (Gi (Qj y))) (kg b o y)) a3 o3⟩
end
def UJ (base:Heap)(mg:Str->Option Qb):Prop:=∃ bm ob,mg "__builtins__"=some (.ref bm)/\bm≠Rn/\base.get? bm=some ob/\ob.cls=.type "module"/\ob.dict=some Rn/\ob.data=.plain
def ZgS (ts:List Addr)(H:Hp):Prop:=∀ b,H b=none\/(∃ o xs,H b=some (.frz o (.lst xs)))\/(H b=some (.tbl #[])/\b∈ts)
theorem ZiJ {P:Ql}{w:Qs}{K:Qa}{mg mb:Str->Option Qb}{CX:UR}{k:Nat}{fa a:Addr}{fd:Qm}{x:Str}{sp:Sp}{B:Qf}{vs:List Qb}{ns:List Int}{ts:List Addr}
   (KX:K.In B.heap) (hns:B.heap.Ns Qv mg) (D:B.heap.Ns Rn mb) (hbb:∀ x:Str,x≠"__name__"->mb x=Pf x) (hlim:B.heap.NoLimit) (hg:B.gens=#[]) (hbm:UJ B.heap mg)
   (ha:B.heap.get? a=some { cls:=.type "list",data:=.seq vs.toArray }) (hi:NG vs ns) (hl:ns.length<=Qi) (hr:Room k Ow)
   (Y:∀ b∈ts,B.heap.get? b=some (tabObj #[])/\K.lookup b=none/\∃ c,CodeHd B.heap c b)
   (F:∀ base:Heap,K.In base->base.Ns Qv mg->UJ base mg->FnOk P w K mg base CX k fa fd [x] sp) (hbind:∀ (s:Qf) (u:Qb),Ov s fd ⟨[u],[]⟩ [(x,u)])
   (hsp:∀ H:Hp,ZgS ts H->SqL K H a (ns.map V.int)->(∀ b∈ts,H b=some (.tbl #[]))->sp [.ref a] H (fun v _=>v=.bl true) fun _ _ _=>False)
   (hCX:∀ H e s',CX [] H B (fun _ _ _=>False) e s'->False) :
   JN (Qt P w) Ow (.call (.ref fa) ⟨[.ref a],[]⟩) (fun r s'=>r=.ok (.ret (.bool true))/\OldK B.heap s'.heap/\s'.os=B.os/\Sm s'.gens) B:=by
 have rv:=Zaq hi
 have lenV:=hi.length
 have nta:a ∉ ts:=fun z=>by
   have e:=(Y a z).1
   rw [ha] at e;cases e
 have core : ∀ H:Hp,ZgS ts H->SqL K H a (ns.map V.int)->HOk P w H B.heap->(∀ b∈ts,H b=some (.tbl #[]))->(∀ b,H b≠none->b=a\/b∈ts)->(∀ b,H b≠none->K.lookup b=none) ->
     JN (Qt P w) Ow (.call (.ref fa) ⟨[.ref a],[]⟩) (fun r s'=>r=.ok (.ret (.bool true))/\OldK B.heap s'.heap/\s'.os=B.os/\Sm s'.gens) B:=by
   intro H hO hS hok hT hA hK
   have W:∀ {b:Addr} {o:Obj},B.heap.get? b=some o->H b=none->(UO B.heap H).get? b=some o:=fun y n=>Zkm y n
   have free:∀ {b:Addr} {o:Obj},B.heap.get? b=some o->(∀ its n,o.data≠.seq its n)->(∀ fs,o.data≠.fields fs)->H b=none:=fun {b o} y d1 d2=>by
     cases q:H b with
     | none=>rfl
     | some u =>
       rcases hA b (by rw [q];simp) with z | z
       · subst z
         rw [ha] at y;cases y
         exact absurd rfl (d1 _ _)
       · rw [(Y b z).1] at y;cases y
         exact absurd rfl (d2 _)
   have nsK:∀ {b:Addr} {m:Str->Option Qb},B.heap.Ns b m->(UO B.heap H).Ns b m:=fun {b m} ⟨o,es,ep,y,d,r⟩=>⟨o,es,ep,W y (free y (fun its n z=>by rw [d] at z;cases z) fun fs z=>by rw [d] at z;cases z),d,r⟩
   have hKb:K.In (UO B.heap H):=fun b o y=>W (KX b o y) (by
     cases q:H b with
     | none=>rfl
     | some u=>rw [hK b (by rw [q];simp)] at y;cases y)
   have hBm:UJ (UO B.heap H) mg:=by
     obtain ⟨bm,ob,h1,h2,h3,h4,h5,h6⟩:=hbm
     exact ⟨bm,ob,h1,h2,W h3 (free h3 (fun its n z=>by rw [h6] at z;cases z) fun fs z=>by rw [h6] at z;cases z),h4,h5,h6⟩
   have hM:Mod K mg (UO B.heap H):=⟨hKb,nsK hns,⟨mb,nsK D,hbb⟩,let ⟨mc,h1,h2⟩:=hlim;⟨mc,nsK h1,h2⟩⟩
   have e0:Env0 P w K mg (UO B.heap H) Ow [] B H:=⟨rfl,hM,fun b o e=>ZmI e,Tw (Zix _ _),trivial,fun b D=>absurd (show b∈([]:List Addr) from D) (by simp),hok,.of_eq hg⟩
   refine GV ((F _ hKb (nsK hns) hBm).run Ow [] B H ⟨[.ref a],[]⟩ [.ref a] [.ref a] _ _ hr e0 (hbind B (.ref a)) (.cons rfl .nil) (hsp H hO hS hT)) fun r s' h=>?_
   cases r with
   | error e=>exact (hCX H e s' h).elim
   | ok fl =>
     cases fl with
     | next=>exact GE h
     | brk=>exact GE h
     | cont=>exact GE h
     | ret u =>
       obtain ⟨v,H',os,bare,un,hok',r',q⟩:=h
       have q':v=.bl true:=q
       subst q'
       obtain rfl:u=Rm true:=r'
       have key:∀ b o,B.heap.get? b=some o->s'.heap.get? b=some o\/(b∈ts/\∃ J:Array Qb,s'.heap.get? b=some (tabObj (#[]++J))):=fun b o y=>by
         cases q:H b with
         | none=>exact .inl (un.keep b o y q (by intro z;exact absurd (show b∈([]:List Addr) from z) (by simp)) (by simp))
         | some u =>
           rcases hO b with z | ⟨ob,xs,z⟩ | ⟨z,zt⟩
           · rw [q] at z;cases z
           · have z2:=un.frzs b ob _ z
             obtain ⟨e1,_⟩:=hok b _ z
             obtain ⟨e2,_⟩:=hok' b _ z2
             rw [y] at e1;cases e1
             exact .inl e2
           · obtain ⟨J,z2⟩:=un.tbls b #[] z
             exact .inr ⟨zt,J,show s'.heap.get? b=some { cls:=.none,data:=.fields (#[]++J) } from hok' b _ z2⟩
       refine ⟨rfl,⟨fun b o y=>?_,fun b o y=>?_⟩,os,bare⟩
       · rcases key b o y with z | ⟨zt,J,z⟩
         · exact .inl z
         · obtain ⟨t1,_,c,t3⟩:=Y b zt
           rw [t1] at y;cases y
           exact .inr (.inl ⟨(t3.tab t1).isCodeTable,rfl,#[],J,rfl,z⟩)
       · rcases key b o y with z | ⟨zt,J,z⟩
         · exact ⟨_,z⟩
         · exact ⟨_,z⟩
 have okT:∀ (H:Hp) (b:Addr),b∈ts->ObjOk P w H B.heap b (.tbl #[]):=fun H b D=>(Y b D).1
 cases hk:K.lookup a with
 | some o =>
   have e:=KX a o hk
   rw [ha] at e
   cases e
   refine core (fun b=>if b∈ts then some (.tbl #[]) else none) (fun b=>?_) (.inr ⟨_,vs.toArray,_,hk,rfl,rfl,rfl,by rw [size_toArray,lenV];exact hl,by simpa using rv⟩) (fun b u z=>?_) (fun b D=>if_pos D) (fun b z=>?_) (fun b z=>?_)
   · by_cases D:b∈ts
     · exact .inr (.inr ⟨if_pos D,D⟩)
     · exact .inl (if_neg D)
   · by_cases D:b∈ts
     · have Z:=(if_pos D).symm.trans z
       cases Z
       exact okT _ b D
     · have Z:=(if_neg D).symm.trans z
       cases Z
   · by_cases D:b∈ts
     · exact .inr D
     · exact absurd (if_neg D) z
   · by_cases D:b∈ts
     · exact (Y b D).2.1
     · exact absurd (if_neg D) z
 | none =>
   refine core (fun b=>if b=a then some (.frz { cls:=.type "list",data:=.seq vs.toArray } (.lst (ns.map V.int))) else if b∈ts then some (.tbl #[]) else none) (fun b=>?_) (.inl (.inr ⟨{ cls:=.type "list",data:=.seq vs.toArray },if_pos rfl⟩)) (fun b u z=>?_)
     (fun b D=>(if_neg (fun z:b=a=>nta (by rw [<- z];exact D))).trans (if_pos D)) (fun b z=>?_) (fun b z=>?_)
   · by_cases h1:b=a
     · exact .inr (.inl ⟨_,_,if_pos h1⟩)
     · by_cases D:b∈ts
       · exact .inr (.inr ⟨(if_neg h1).trans (if_pos D),D⟩)
       · exact .inl ((if_neg h1).trans (if_neg D))
   · by_cases h1:b=a
     · have Z:=(if_pos h1).symm.trans z
       cases Z
       subst h1
       exact ⟨ha,by rw [length_map];exact hl,vs,_,rv,ha⟩
     · have z1:=(if_neg h1).symm.trans z
       by_cases D:b∈ts
       · have Z:=(if_pos D).symm.trans z1
         cases Z
         exact okT _ b D
       · have Z:=(if_neg D).symm.trans z1
         cases Z
   · by_cases h1:b=a
     · exact .inl h1
     · by_cases D:b∈ts
       · exact .inr D
       · exact absurd ((if_neg h1).trans (if_neg D)) z
   · by_cases h1:b=a
     · rw [h1];exact hk
     · by_cases D:b∈ts
       · exact (Y b D).2.1
       · exact absurd ((if_neg h1).trans (if_neg D)) z
theorem walk_ofT {l:RO}{n k:Nat}{q:Ql}{D:List Str}{XP:(Str->Option Qb)->Heap->Prop}{YP:Qs->Heap->Prop}{d:DefRec}{K:Params->Qa}{CX:Qs->UR}{sp:Qs->Sp}{x:Str}{ts:List Addr}
 (hn:l.most=some n) (hn2:n<=Qi) (hdf:d.params.defaults=[]) (hr:Room k Ow)
 (hY:∀ (w:Qs) (h:Heap),YP w h->(K w.params).In h/\∀ b∈ts,h.get? b=some (tabObj #[]))
 (hK:∀ (w:Qs) (b:Addr),b∈ts->(K w.params).lookup b=none/\∃ c,codeHdIn (K w.params) c b=true)
 (F:∀ (w:Qs) (mg:Str->Option Qb) (fa:Addr) (h:Heap),(K w.params).In h->h.Ns Qv mg->mg d.name=some (.ref fa) ->
  ∃ fd:Qm,(∀ (s:Qf) (u:Qb),Ov s fd ⟨[u],[]⟩ [(x,u)]) /\
   ∀ base:Heap,(K w.params).In base->base.Ns Qv mg->UJ base mg->FnOk l.prog w (K w.params) mg base (CX w) k fa fd [x] (sp w))
 (hsp:∀ (w:Qs) (H:Hp) (a:Addr) (ns:List Int),ns.length<=n->ZgS ts H->SqL (K w.params) H a (ns.map V.int)->(∀ b∈ts,H b=some (.tbl #[]))->sp w [.ref a] H (fun v _=>v=.bl true) fun _ _ _=>False)
 (hCX:∀ (w:Qs) (H:Hp) (s:Qf) (e:Qb) (s':Qf),CX w [] H s (fun _ _ _=>False) e s'->False) :
 PySem.W.WalkO q D XP YP l.row.toRowW d [] (fun f vs=>PySem.call f vs):=by
 refine Att.attach_call hn hdf fun w s₀ s₁ mg mb fa o pm cd doc a vs ns G Y ho hd hcd hmg Z B z hg=>?_
 obtain ⟨KX,hT⟩:=hY w _ Y
 obtain ⟨fd,hb,hF⟩:=F w mg fa _ KX G.T.g hmg
 exact ZiJ (ts:=ts) KX G.T.g G.T.b G.T.builtins G.T.nolimit hg G.T.bmain Z B (Qr z hn2) hr (fun b J=>⟨hT b J,(hK w b J).1,let ⟨c,hc⟩:=(hK w b J).2;⟨c,codeHd_of_K KX hc⟩⟩) hF hb (fun H hO hS hTb=>hsp w H a ns z hO hS hTb) fun H e s'=>hCX w H s₁ e s'
abbrev ZaA (apos:Pos):Arguments:={ posonlyargs:=[],args:=[{ arg:="pair",annotation:=none,pos:=apos }],vararg:=none,kwonlyargs:=[],kw_defaults:=[],kwarg:=none,defaults:=[] }
abbrev UY (p1 p2 p3:Pos):Expr:=.Subscript (.Name "pair" p1) (.Constant (.int 0) 0 p2) p3
abbrev Ur:Scope:={ kind:=.function,names:=[("pair",.local)],isGenerator:=false,isCoroutine:=false,more:=[] }
section
variable {prog:Ql}{w:Qs}{A:QL}{E:Qb->Qf->Prop}{s:Qf}
theorem Zkq (ho:s.heap.get? q=some { cls:=.type "function",data:=.func (kla_fn "<lambda>" qual (ZaA apos) (UY p1 p2 p3) Ur [] pm Z ct) })(hcd:s.heap.CodeRec Z qual)(hlim:s.heap.NoLimit)(J:A.depth < Og)(ht:My s.heap t B)(h0:B[0]?=some k)(hQ:∀ h' tk,(∀ b o,s.heap.get? b=some o->h'.get? b=some o)->s.heap.objs.size<=h'.objs.size->Q k { s with heap:=h',toks:=tk }):
 Qp (Qt prog w) A (call (.ref q) [.ref t]) Q E s:=by
 refine Rr (kla_callFunE (body:=UY p1 p2 p3) J ho rfl rfl rfl rfl hcd ?_)
 refine Tj (a:=[(Qq "pair",QE t)]) rfl ?_
 refine TV rfl (fun y hy=>?_) fun env he z x=>⟨hlim.keeps x.toInCall.keep,kla_codeExpr ?_⟩
 ·rw [mem_singleton.mp hy];exact .inl rfl
 have Y:=x.toInCall.ns
 obtain ⟨h1,tk1,e1⟩:=x.toInCall.same
 have D:=x.toInCall.keep
 have hfr:=x.toInCall.fresh
 have hL:=Y.lt
 have W:env.kindOf "pair"=some .local:=by rw [he];rfl
 have hm:(Mz env.kindOf [(Qq "pair",QE t)] fun _=>none) "pair"=some (.ref t):=by
  rw [he];rfl
 have hsc:env.scope.kind=.function:=by rw [he];rfl
 clear x
 refine Rv (OQ (Td hsc W Y hm (OR ?_)) (by decide))
 have ht1:My z.heap t B:=by
  obtain ⟨o,e,r⟩:=ht
  exact ⟨o,D _ _ e,r⟩
 have fin:Q k { z with toks:=z.toks+1 }:=by
  subst e1
  exact hQ h1 (tk1+1) D (GG (QT hfr hL))
 have hsz:0 < B.size:=(JL.mp h0).1
 have ht2:My (Shared.heap { z with toks:=z.toks+1 }) t B:=ht1
 exact Pq (x:=k) ht2.typeIs OY.lookup
  (getItem_tuple (j:=0) (Q:=fun r s'=>r=k/\(fun v s'=>(match (Except.ok (Flow.ret v):OU) with | .ok (.ret v)=>Q v s' | .ok _=>False | .error e=>E e s')) r s') ht2 (by decide) (by decide) (ZcK (n:=B.size) (i:=0) (j:=0) (by unfold WR;rw [if_pos (by decide),if_pos (by omega)];rfl)).1 h0 ⟨rfl,fin⟩) rfl
theorem ZfF:∀{ts:List Addr}{us:List Qb},Vals (ts.map V.ref) us->us=ts.map QE
 | [],_,.nil=>rfl
 | t::ts,_,.cons r h=>by
  have e:=ZfF h
  cases (show _=QE t from r)
  rw [e];rfl
end
def Zet (ks:List Str)(ts ts':List Addr):Prop:=∃ ps:List (Str×Addr),ps.Perm (ks.zip ts)/\ts'=ps.map (·.2)/\ps.Pairwise fun p q=>¬ (q.1.cps.toList < p.1.cps.toList)
def unR:Qb->Addr
 | .ref a=>a
 | _=>0
theorem Znb (h:ZaS ks (ts.map QE) out):∃ B,out=B.map QE/\Zet ks ts B:=by
 obtain ⟨ps,hp,W,J⟩:=h
 have z:∀ p∈ps,p.2=QE (unR p.2):=fun p D=>by
  have h1:=(of_mem_zip (show (p.1,p.2)∈_ from hp.mem_iff.mp D)).2
  obtain ⟨t,_,e⟩:=mem_map.mp h1
  rw [<- e];rfl
 refine ⟨ps.map fun p=>unR p.2,?_,ps.map (fun p=>(p.1,unR p.2)),?_,?_,?_⟩
 ·rw [W,map_map]
  exact Jl z
 ·have h1:=hp.map fun p:Str×Qb=>(p.1,unR p.2)
  have h2:(ks.zip (ts.map QE)).map (fun p:Str×Qb=>(p.1,unR p.2))=ks.zip ts:=by
   rw [List.zip_map_right,map_map]
   have:((fun p:Str×Qb=>(p.1,unR p.2)) ∘ Prod.map id QE)=(id:Str×Addr->Str×Addr):=by funext p;rfl
   rw [this,List.map_id]
  rwa [h2] at h1
 ·rw [map_map];rfl
 ·rw [pairwise_map];exact J
def ZgO (c:Addr)(qual:Str):Heap->Prop:=fun h=>h.CodeRec (.ref c) qual
def LamAt (H:Hp)(Pl:Addr)(lpos:Pos)(qual:Str):Prop :=
 H Pl=some (.tbl #[])\/∃ c,H Pl=some (.tbl #[Gb lpos.line,Gb lpos.col,.ref c])/\H c=some (.ext (ZgO c qual))
theorem Zmr (e:h.CodeRec (.ref c) qual):ObjOk P w H h c (.ext (ZgO c qual)):=by
 obtain ⟨B,o,vs,t,z,g,r⟩:=id e
 cases z
 refine ⟨e,⟨o,g⟩,fun h1 h2 p k=>?_⟩
 obtain ⟨B,o,vs,t,z,g,r⟩:=p
 cases z
 exact ⟨_,o,vs,t,rfl,k _ g,r⟩
def Grown (Pl:Addr)(H H':Hp):Prop:=∀ b o,b≠Pl->H b=some o->H' b=some o
section
variable {X:Cx}{pins:List (Addr×Obj)}{σ:List (Option V)}{H:Hp}{s:Qf}{h':Heap}
theorem Inv.table {t':Nat}{Pl c:Addr}{ps:Array Qb}{qual:Str}{lpos:Pos}(I:Inv X pins σ H s)(B:H Pl=some (.tbl ps))(k:∀ b o,b≠Pl->s.heap.get? b=some o->h'.get? b=some o)
 (Z:h'.get? Pl=some (tabObj (ps++#[Gb lpos.line,Gb lpos.col,.ref c]))) (hc:s.heap.objs.size<=c) (hr:h'.CodeRec (.ref c) qual) :
 Inv X pins σ (upd (upd H Pl (.tbl (ps++#[Gb lpos.line,Gb lpos.col,.ref c]))) c (.ext (ZgO c qual))) { s with heap:=h',toks:=t' }:=by
 have D:H c=none:=I.hok.fresh hc
 have Y:c≠Pl:=fun z=>by rw [z,B] at D;cases D
 have W:∀ b,H b=none->b≠Pl:=fun b z e=>by rw [e,B] at z;cases z
 have off:∀ b o,b≠Pl->H b=some o->upd (upd H Pl (.tbl (ps++#[Gb lpos.line,Gb lpos.col,.ref c]))) c (.ext (ZgO c qual)) b=some o:=fun b o h1 e=>by rw [Zl (Zs e D),Zl h1];exact e
 have nL:X.env.locals≠Pl:=W _ I.free
 refine I.step (g':=s.gens) (d':=s.drawn) (ch:=[]) (fun _ z=>nomatch z) (fun b o _ _ _ e n=>k b o (W b n) e) (fun b o _ _ _ e n=>⟨o.slots,k b o (W b n) e⟩) (fun b o _ e n=>?_) (fun b o _ e=>?_)
  (fun b xs e=>off b _ (fun z=>by rw [z,B] at e;cases e) e) (fun b o u e=>off b _ (fun z=>by rw [z,B] at e;cases e) e) (fun b qs e=>?_) (fun m hm=>?_) (fun b u e=>?_) I.bare
 ·rw [Zl (fun z=>by rw [z] at e;exact absurd (Qj e) (Nc.mpr hc)),Zl (W b n)];exact n
 ·by_cases J:b=Pl
  ·exact ⟨_,by rw [J];exact Z⟩
  ·exact ⟨o,k b o J e⟩
 ·by_cases J:b=Pl
  ·rw [J,B] at e
   cases e
   exact ⟨#[Gb lpos.line,Gb lpos.col,.ref c],by rw [J,Zl Y.symm,Zi]⟩
  ·exact ⟨#[],by rw [off b _ J e];simp⟩
 ·obtain ⟨o,es,ep,ho,r⟩:=hm
  exact ⟨o,es,ep,k _ o nL ho,r⟩
 ·by_cases h1:b=c
  ·subst h1
   rw [Zi] at e
   cases e
   exact Zmr hr
  ·rw [Zl h1] at e
   by_cases h2:b=Pl
   ·subst h2
    rw [Zi] at e
    cases e
    exact Z
   ·rw [Zl h2] at e
    refine (I.hok b u e).stay (fun d v hd y=>k d v ?_ y) (fun d y=>off d _ (fun z=>by rw [z,B] at y;cases y) y) fun d xs y=>off d _ (fun z=>by rw [z,B] at y;cases y) y
    rcases hd with z | z
    ·rw [z];exact h2
    ·exact fun z2=>by rw [z2,B] at z;cases z
theorem Zkr (I:Inv X pins σ H s)(D:X.env.code=.ref c)(C:codeHdIn X.K c Pl=true)(hBm:UJ X.base X.mg)(hL:LamAt H Pl lpos (X.env.qual++"<lambda>"))(h:∀ (q:Addr) (H':Hp) (s':Qf) (pm cdv ct:Qb),Inv X pins σ H' s'->Grown Pl H H'->LamAt H' Pl lpos (X.env.qual++"<lambda>")->s'.heap.get? q=some { cls:=.type "function",data:=.func (kla_fn "<lambda>" (X.env.qual++"<lambda>") (ZaA apos) (UY p1 p2 p3) Ur [] pm cdv ct) } ->
  s'.heap.CodeRec cdv (X.env.qual++"<lambda>")->Q (.ref q) s'):
 Qp (Qt X.prog X.w) A (eval (.Lambda (ZaA apos) (UY p1 p2 p3) Ur lpos) X.env) Q E s:=by
 rw [arm_eval_Lambda]
 refine Qd (m:=evalAll []) (ND (Qd (QX (m:=evalAllOpt []) (Tj (a:=[]) rfl ?_))))
 have hcl:closureFor Ur X.env=pure []:=rfl
 have hg:=I.mod.glob.keeps I.bk
 have CH:=codeHd_of_K I.kIn C
 have tab:∀ ps,H Pl=some (.tbl ps)->s.heap.get? Pl=some (tabObj ps):=fun ps e=>I.hok Pl _ e
 have Y:∀ ps,s.heap.get? Pl=some (tabObj ps)->s.heap.BuiltinsAt X.mg Pl/\Qv≠Pl:=fun ps e=>by
  obtain ⟨bm,ob,b1,b2,b3,b4,b5,b6⟩:=hBm
  have W:=I.bk _ _ b3
  have hmg:Qv≠Pl:=fun z=>by
   obtain ⟨o,es,ep,y,hd,_⟩:=hg
   rw [z,e] at y;cases y;cases hd
  refine ⟨⟨bm,ob,b1,b2,fun z=>?_,(fun z=>by rw [z,e] at W;cases W;cases b4),W,b4,b5,b6⟩,hmg⟩
  obtain ⟨o,es,ep,y,hd,_⟩:=hg
  rw [<- z,W] at y;cases y
  rw [b6] at hd;cases hd
 rcases hL with e | ⟨J,e,ec⟩
 ·have hP:=tab _ e
  obtain ⟨hb,hgP⟩:=Y _ hP
  refine kla_makeFunction (clos:=[]) hcl I.ok.glob hg D CH hP trivial rfl hgP hb fun J Z h' tk hx hge hlt B hT=>?_
  have I1:=I.table (t':=tk) (h':=h') (qual:=X.env.qual++"<lambda>") (lpos:=lpos) e (fun b o hb' y=>hx b o hb' y) hT hge B
  have hcn:H J=none:=I.hok.fresh hge
  have hcP:J≠Pl:=fun z=>by rw [z,e] at hcn;cases hcn
  refine h _ _ _ ((X.mg "__name__").getD .none) (.ref J) Z (I1.kept (t':=tk) fun b o y=>Qc _ y) (fun b o h1 y=>by rw [Zl (Zs y hcn),Zl h1];exact y) (.inr ⟨J,by rw [Zl hcP.symm,Zi];rfl,Zi⟩) (Qk _ rfl) (B.push _)
 ·have hP:=tab _ e
  obtain ⟨hb,hgP⟩:=Y _ hP
  have B:s.heap.CodeRec (.ref J) (X.env.qual++"<lambda>"):=(I.hok J _ ec).1
  refine kla_makeFunctionHit (clos:=[]) (cv:=.ref J) hcl I.ok.glob hg D CH hP trivial (by simp [codeAmong,Gb]) hb fun Z h' tk hk hz=>?_
  exact h _ _ _ ((X.mg "__name__").getD .none) (.ref J) Z ((I.kept (h':=h') (t':=tk) hk).kept (t':=tk) fun b o y=>Qc _ y) (fun b o _ y=>y) (.inr ⟨J,e,ec⟩) (Qk _ rfl) ((B.keeps hk).push _)
end
def Zqp (Pl:Addr)(lpos:Pos)(qual:Str)(te:TE):TE:=fun σ H Q=>te σ H fun x H1=>∃(l:Addr)(ts:List Addr)(ks:List Str),[x]=[.ref l]/\H1 l=some (.lst (ts.map V.ref))/\ts.length < 64/\ks.length=ts.length /\
 (∀ (i:Nat) (t:Addr) (k:Str),ts[i]?=some t->ks[i]?=some k->∃ vs,H1 t=some (.tup (.str k::vs)))/\LamAt H1 Pl lpos qual /\
 ∀ (H2:Hp) (r:Addr) (ts':List Addr),Grown Pl H1 H2->LamAt H2 Pl lpos qual->H2 r=none->Zet ks ts ts'->Q (.ref r) (upd H2 r (.lst (ts'.map V.ref)))
section
variable {X:Cx}
theorem Zfh {k:Nat}{c Pl:Addr}(hg:Gl X "sorted")(hm:X.mg "sorted"=none)(he:PE X e te)(hr:Room k X.A)(W:X.env.code=.ref c)(C:codeHdIn X.K c Pl=true)(hBm:UJ X.base X.mg)(hs:QH [e] X.env=[(false,eval e X.env)]:=by rfl):PE X (.Call (.Name "sorted" p) [e] [⟨some "key",.Lambda (ZaA apos) (UY p1 p2 p3) Ur lpos,kpos⟩] pos) (Zqp Pl lpos (X.env.qual++"<lambda>") te):=by
 intro pins s σ H Q I h
 have ha:PA X [e] (Xu te Xr):=YJ he Za hs
 refine Gk (WT I hg hm boot_sorted (callWith_kw ?_ (by rw [hs];rfl) (by rw [hs];rfl) rfl rfl))
 refine Zw (ha pos pins s σ H (fun xs H1=>∃ (l:Addr) (ts:List Addr) (ks:List Str),xs=[V.ref l]/\H1 l=some (.lst (ts.map V.ref))/\ts.length < 64/\ks.length=ts.length /\
  (∀ (i:Nat) (t:Addr) (k:Str),ts[i]?=some t->ks[i]?=some k->∃ vs,H1 t=some (.tup (.str k::vs)))/\LamAt H1 Pl lpos (X.env.qual++"<lambda>") /\
  ∀ (H2:Hp) (r:Addr) (B:List Addr),Grown Pl H1 H2->LamAt H2 Pl lpos (X.env.qual++"<lambda>")->H2 r=none->Zet ks ts B->Q (.ref r) (upd H2 r (.lst (B.map V.ref)))) I h) fun us s1 ⟨vs,H1,I1,r1,q1⟩=>?_
 obtain ⟨l,ts,ks,rfl,el,h64,Y,htup,hL,q⟩:=q1
 obtain ⟨u,rfl,ru⟩:=Yr r1
 cases ru
 refine kws_cons (Zkr I1 W C hBm hL fun fq H2 s2 pm cdv ct Z gr hL2 hfo hrec=>kws_nil ?_)
 have nl:l≠Pl:=fun z=>by
  rw [z] at el
  rcases hL with y | ⟨_,y,_⟩<;>(rw [el] at y;cases y)
 have el2:=gr l _ nl el
 obtain ⟨its,rv,pl,hz⟩:=Z.list (SqL.of el2)
 have hits:=ZfF rv
 subst hits
 have J:∀ (i:Nat) (t:Addr) (k:Str),ts[i]?=some t->ks[i]?=some k->∃ its':Array Qb,My s2.heap t its'/\∃ tk,its'[0]?=some (.str k tk):=fun i t k h1 h2=>by
  obtain ⟨vs,ev⟩:=htup i t k h1 h2
  have nt:t≠Pl:=fun z=>by
   rw [z] at ev
   rcases hL with y | ⟨_,y,_⟩<;>(rw [ev] at y;cases y)
  obtain ⟨_,itv,rv',pt⟩:=(show ObjOk X.prog X.w H2 s2.heap t (.tup (.str k::vs)) from Z.hok t _ (gr t _ nt ev))
  cases rv' with
  | cons r rr =>
   obtain ⟨tk,e⟩:=r
   exact ⟨_,pt,tk,by rw [e];rfl⟩
 refine Znt (vs:=ts.map QE) (ks:=ks) pl.isList (by rw [length_map];exact Y) (by rw [length_map];exact h64) (fun x=>ksk_t1 fq x) (fun h1 tk1 k1 z1=>?_) fun h' tk out cc k3 a3 o3=>?_
 ·intro i v k hv hk h2 tk2 k2 z2 Q' hQ'
  rw [getElem?_map] at hv
  cases ht:ts[i]? with
  | none=>rw [ht] at hv;cases hv
  | some t =>
   rw [ht] at hv
   cases (show some (QE t)=some v from hv)
   obtain ⟨its',pt,tk',e0⟩:=J i t k ht hk
   have kp:∀ b o,s2.heap.get? b=some o->h2.get? b=some o:=fun b o y=>k2 b o (Qn (Gi (Qj y))) (k1 b o y)
   have pt2:My h2 t its':=by
    obtain ⟨o,eo,r⟩:=pt
    exact ⟨o,kp _ _ eo,r⟩
   exact Zkq (s:={ s2 with heap:=h2,toks:=tk2 }) (kp _ _ hfo) (hrec.keeps kp) (Z.nolimit.keeps kp) (show X.A.depth < Og by have:=hr.dp;omega) pt2 e0 fun h3 tk3 k3 z3=>hQ' h3 tk3 tk' k3 z3
 ·obtain ⟨B,D,hT⟩:=Znb o3
  have rv2:Vals (B.map V.ref) out.toList:=by
   rw [D]
   clear D hT o3
   induction B with
   | nil=>exact .nil
   | cons t r ih=>exact .cons rfl ih
  have hl2:(B.map V.ref).length<=sizeLine:=by
   obtain ⟨ps,hp,e,_⟩:=hT
   have:=hp.length_eq
   rw [Ts] at this
   rw [length_map,e,length_map,this]
   exact Zhf (by omega)
  exact ⟨.ref _,_,Z.laid (t':=tk) k3 (Gh _) (show ObjOk X.prog X.w _ h' _ (.lst (B.map V.ref)) from ⟨hl2,out.toList,cc,rv2,by rw [GY];exact a3⟩),rfl,q H2 _ B gr hL2 (Z.hok.fresh (Gh _)) hT⟩
end
theorem Zca:OW (.type "tuple") "keys"=pure none:=am_miss_of_fast (by decide +kernel)
section
variable {prog:Ql}{w:Qs}{A:QL}{E:Qb->Qf->Prop}{s:Qf}
theorem ZiF {k:Nat}(J:s.heap.get? a=some { cls:=.type "tuple",dict:=none,data:=.seq xs k,slots:=W })(Y:A.handled=none)(h:∀ h' tk,(∀ b o,s.heap.get? b=some o->h'.get? b=some o)->Q none { s with heap:=h',toks:=tk }):Qp (Qt prog w) A (getAttr? (.ref a) "keys") Q E s:=by
 obtain ⟨hp,g,d,tk,os⟩:=s
 have D:∀ z,(⟨hp,g,d,z,os⟩:Qf).TypeIs (.ref a) "tuple":=fun _=>⟨_,J,rfl⟩
 have f1:=sub_AttributeError
 have f3:=Sd.lookup
 have Z:=Sd.bind (.ref a)
 have f5:=am_tuple_getattr_none
 unfold getAttr? getAttrBy? getAttrBy
 repeat (any_goals first | assumption | exact D _ | ((with_reducible show Qp _ _ (call (Value.builtin "tuple.__getattribute__") _ _) _ _ _);refine TW F.slot_tuple_getattribute (D _) am_entry_tuple_getattribute (F.args_tuple_getattribute_2 _ _) (meets_getattribute_miss_tuple a xs k W "keys" _ Zca (by decide) (by decide)) ⟨J,Y,fun h' z e B=>?_⟩) | wp_step)
 obtain ⟨t',u',he⟩:=B.there
 show Qp _ _ (Nl _ _ _ _ _ _ _) _ _ _
 unfold Nl
 repeat (any_goals first | assumption | wp_step)
 all_goals exact h _ _ B.keeps
theorem UX:Oo table "dict.update.loop"=some GR.«dict.update.loop»:=Mm (by kernel_rfl)
theorem XU:plainId "dict.update.loop"=true:=by decide +kernel
end
section
variable {prog:Ql}{w:Qs}{A:QL}{R:OU->Qf->Prop}
def PairAt (prog:Ql)(w:Qs)(h:Heap)(v:Qb)(p:Zj×Qb):Prop:=∃ tt key,v=.ref tt/\My h tt #[key,p.2]/\(ZB prog w).is p.1 key=true
theorem PairAt.keep (x:PairAt prog w h v p)(k:∀ b o,h.get? b=some o->h'.get? b=some o):PairAt prog w h' v p:=by
 obtain ⟨B,key,e,⟨o,D,r⟩,z⟩:=x
 exact ⟨B,key,e,⟨o,k _ _ D,r⟩,z⟩
theorem PairAt.but (x:PairAt prog w h v p)(D:h.get? d=some o)(J:o.cls≠.type "tuple")(k:∀ b o,b≠d->h.get? b=some o->h'.get? b=some o):PairAt prog w h' v p:=by
 obtain ⟨Y,key,e,⟨W,B,c,r⟩,z⟩:=x
 refine ⟨Y,key,e,⟨W,k _ _ (fun y=>?_) B,c,r⟩,z⟩
 rw [y,D] at B
 cases B
 exact J c
theorem ZlI (ps:List (Zj×Qb))(hlen:ps.length=B.size)(hnd:(ps.map (·.1)).Nodup)(hsz:ps.length<=Qi)(hh:A.handled=none)(hIt:I≠t)(hId:I≠d):
 ∀ (k i:Nat) (s:Qf) (n:Int) (tk:Tok),ps.length - i=k->i<=ps.length->s.heap.IsTupleIter I t i->s.heap.IsTuple t B->(∀ (j:Nat) (v:Qb) (p:Zj×Qb),B[j]?=some v->ps[j]?=some p->PairAt prog w s.heap v p)->s.heap.DictOf (ZB prog w) d (ps.take i) ->
 (∀ h' tk',(∀ b o,b≠I->b≠d->s.heap.get? b=some o->h'.get? b=some o)->h'.DictOf (ZB prog w) d ps->R (.ok (.ret .none)) { s with heap:=h',toks:=tk' }) ->
 JN (Qt prog w) A (.builtin "dict.update.loop" ⟨[.ref d,.ref I,.int n tk,.none],[]⟩) R s:=by
 have W:=Walks.tuple (prog:=prog) (w:=w) (A:=A.in1) hh I t hIt.symm B
 intro k
 induction k with
 | zero =>
  intro i s n tk hk hi Z htp hpr hd hR
  have hin:i=B.size:=by omega
  refine Gr UX ?_
  rw [Gm XU _]
  show Qp _ A.in1 (SH (.ref I) >>= _) _ _ s
  refine Qd (W.done s _ _ ⟨by rw [<- hin];exact Z,htp⟩ fun h' tk' kk=>?_)
  show Qp _ _ (Builtin.Dict.addKeywords d [] >>= _) _ _ _
  refine Qd (Qh (Qh (hR h' tk' (fun b o h1 _ y=>kk b o (by simpa using h1) y) ?_)))
  rw [take_of_length_le (by omega)] at hd
  obtain ⟨o,es,ep,J,r⟩:=hd
  exact ⟨o,es,ep,kk d o (by simpa using hId.symm) J,r⟩
 | succ k ih =>
  intro i s n tk hk hi Z htp hpr hd hR
  have hlt:i < B.size:=by omega
  refine Gr UX ?_
  rw [Gm XU _]
  show Qp _ A.in1 (SH (.ref I) >>= _) _ _ s
  refine Qd (W.item i s _ _ hlt ⟨Z,htp⟩ fun v h1 tk1 hv st1 kk=>?_)
  obtain ⟨hit1,htp1⟩:=st1
  have hI0:∃ o,s.heap.get? I=some o/\o.cls≠.type "tuple":=by
   obtain ⟨o,J,c,_⟩:=Z
   exact ⟨o,J,by rw [c];decide⟩
  have hpr1:∀ (j:Nat) (v:Qb) (p:Zj×Qb),B[j]?=some v->ps[j]?=some p->PairAt prog w h1 v p:=fun j v p a b=>by
   obtain ⟨o,J,c⟩:=hI0
   exact (hpr j v p a b).but J c fun b o hb y=>kk b o (by simpa using hb) y
  obtain ⟨p,hp⟩:∃ p,ps[i]?=some p:=⟨_,getElem?_eq_getElem (by omega)⟩
  have hv':B[i]?=some v:=hv
  obtain ⟨tt,key,rfl,⟨ot,J,oc,on,od⟩,hkey⟩:=hpr1 i v p hv' hp
  have hd1:h1.DictOf (ZB prog w) d (ps.take i):=by
   obtain ⟨o,es,ep,J,r⟩:=hd
   exact ⟨o,es,ep,kk d o (by simpa using hId.symm) J,r⟩
  have hT:JS { s with heap:=h1,toks:=tk1 } (.ref tt) "tuple":=⟨ot,J,oc⟩
  have hnew:stored (ps.take i) p.1 p.2=ps.take (i+1):=by
   have hni:p.1 ∉ (ps.take i).map (·.1):=fun z=>by
    have e1:(ps.map (·.1))=(ps.take i).map (·.1)++(ps.drop i).map (·.1):=by rw [<- map_append,RX]
    rw [e1,nodup_append] at hnd
    refine hnd.2.2 _ z _ (mem_map.mpr ⟨p,?_,rfl⟩) rfl
    exact mem_of_getElem? (i:=0) (by rw [Nh];simpa using hp)
   unfold stored
   rw [if_neg,take_add_one,hp]
   ·rfl
   ·intro z
    obtain ⟨q,hq,e⟩:=List.any_eq_true.mp z
    exact hni (mem_map.mpr ⟨q,hq,by simpa using e⟩)
  show Qp _ A.in1 (Ph [.ref tt] _ >>= _) _ _ _
  refine Qd (QX ?_)
  refine Qd (wpAny_tryCatch ?_)
  unfold Builtin.Dict.pairItems
  refine Qd (RC hT ?_)
  rw [if_pos (by decide)]
  refine Qd (wpAny_seqItems J od (Qh ?_))
  show Qp _ _ (Ph [key,p.2] (dictSet d key p.2)) _ _ _
  refine QX (wpAny_dictSet_pairs hkey hd1 (fun h2 hd2 Y=>?_) (Qr (by rw [length_take];omega) hsz))
  rw [hnew] at hd2
  refine Qh ⟨JF XU _,ih (i+1) _ (n+1) _ (by omega) (by omega) ?_ ?_ ?_ hd2 ?_⟩
  ·obtain ⟨o,D,r⟩:=hit1
   exact ⟨o,(Y.2 I hId).trans D,r⟩
  ·obtain ⟨o,D,r⟩:=htp1
   refine ⟨o,(Y.2 t (fun z=>?_)).trans D,r⟩
   obtain ⟨o',es,ep,eo2,c2,_⟩:=hd1
   rw [z,eo2] at D
   cases D
   rw [c2.1] at r
   exact absurd r.1 (by decide)
  ·intro j v p a b
   obtain ⟨o',es,ep,eo2,c2,_⟩:=hd1
   exact (hpr1 j v p a b).but eo2 (by rw [c2.1];decide) fun b o hb y=>(Y.2 b hb).trans y
  ·intro h3 tk3 k3 hd3
   exact hR h3 tk3 (fun b o h4 h5 y=>k3 b o h4 h5 ((Y.2 b h5).trans (kk b o (by simpa using h4) y))) hd3
end
section
variable {prog:Ql}{w:Qs}{A:QL}{E:Qb->Qf->Prop}{s:Qf}
theorem ZdU (ps:List (Zj×Qb))(ht:My s.heap t z)(hnd0:∃ o,s.heap.get? t=some o/\o.dict=none)(hlen:ps.length=z.size)(hnd:(ps.map (·.1)).Nodup)(hsz:ps.length<=Qi)(hh:A.handled=none)(hpr:∀ (j:Nat) (v:Qb) (p:Zj×Qb),z[j]?=some v->ps[j]?=some p->PairAt prog w s.heap v p)(h:∀ h' Y,(∀ b o,s.heap.get? b=some o->h'.get? b=some o)->h'.DictOf (ZB prog w) s.heap.objs.size ps->Q (.ref s.heap.objs.size) { s with heap:=h',toks:=Y }):
 Qp (Qt prog w) A (call (.type "dict") [.ref t]) Q E s:=by
 refine callType_codes (Q₁:=fun obj J=>obj=.ref s.heap.objs.size/\J={ s with heap:=s.heap.push { cls:=.type "dict",data:=.dict #[] } }) F.kt_called_dict (F.kt_typeCall_dict_1 _) F.entry_dict_init (kt_code_dict_new _ ⟨rfl,rfl⟩) ?_
 rintro obj J ⟨rfl,rfl⟩
 have B:(s.heap.push { cls:=.type "dict",data:=.dict #[] }).DictOf (ZB prog w) s.heap.objs.size []:=MK s.heap
 have tlt:t < s.heap.objs.size:=by obtain ⟨o,Z,_⟩:=ht;exact Qj Z
 obtain ⟨ot,D,oct,on,odt⟩:=id ht
 obtain ⟨o2,eo2,W⟩:=hnd0
 rw [D] at eo2
 cases eo2
 refine ⟨B.typeIs,F.args_dict_init_2 _ _,?_⟩
 unfold GR.«dict.__init__»
 refine Qd ?_
 unfold Builtin.Dict.selfAndRest
 refine Qd (wpAny_notOrdered_dict B.typeIs ?_)
 show Qp _ _ (pure (s.heap.objs.size,[QE t])) _ _ _
 refine Qh ?_
 show Qp _ _ (Rg "dict.__init__" s.heap.objs.size (.ref t) [] .none) _ _ _
 unfold Rg
 have hT:JS { s with heap:=s.heap.push { cls:=.type "dict",data:=.dict #[] } } (.ref t) "tuple":=⟨ot,Qc _ D,oct⟩
 refine Qd (RC hT ?_)
 rw [if_pos (by decide)]
 obtain ⟨c0,d0,dt0,sl0⟩:=ot
 have e1:c0=.type "tuple":=oct
 have e2:d0=none:=W
 have e3:dt0=.seq z on:=odt
 subst e1 e2 e3
 refine Qd (ZiF (s:={ s with heap:=s.heap.push { cls:=.type "dict",data:=.dict #[] } }) (Qc _ D) hh fun h1 tk1 k1=>?_)
 rw [if_pos (show (none:Option Qb).isNone=true from rfl)]
 have et1:=k1 _ _ (Qc { cls:=.type "dict",data:=.dict #[] } D)
 have hd1:h1.DictOf (ZB prog w) s.heap.objs.size []:=by
  obtain ⟨o,es,ep,Z,r⟩:=B
  exact ⟨o,es,ep,k1 _ _ Z,r⟩
 have dlt:s.heap.objs.size < h1.objs.size:=by obtain ⟨o,es,ep,Z,r⟩:=hd1;exact Qj Z
 refine Qd (PR (Qd (OS (items:=z) ⟨_,et1,rfl,on,rfl⟩ ?_)))
 refine Qh ⟨JF XU _,ZlI (A:=A.in1) ps hlen hnd hsz hh (GI (Qj et1)) (GI dlt) ps.length 0 _ 0 _ (by omega) (Qw _) ⟨_,Qk _ rfl,rfl,rfl⟩ ⟨_,Qc _ et1,rfl,on,rfl⟩ ?_ ?_ ?_⟩
 ·intro j v p a b
  exact (hpr j v p a b).keep fun b o y=>Qc _ (k1 _ _ (Qc _ y))
 ·obtain ⟨o,es,ep,Z,r⟩:=hd1
  exact ⟨o,es,ep,Qc _ Z,r⟩
 ·intro h' Y k3 hd3
  refine ⟨rfl,h h' Y (fun b o y=>?_) hd3⟩
  have y1:=k1 _ _ (Qc { cls:=.type "dict",data:=.dict #[] } y)
  exact k3 b o (Qn (Qj y1)) (Qn (Qj y)) (Qc _ y1)
end
section
variable {X:Cx}
theorem UA (hc:X.calm=true):Yv X (.type "dict") (fun xs H Q=>∃ (t:Addr) (ts:List Addr) (kvs:List (Str×V)),xs=[.ref t]/\(∃ o,H t=some (.frz o (.tup (ts.map V.ref)))/\o.dict=none)/\ts.length=kvs.length/\kvs.length<=1000 /\
   (∀ (i:Nat) (a:Addr) (p:Str×V),ts[i]?=some a->kvs[i]?=some p->H a=some (.tup [.str p.1,p.2]))/\(kvs.map (·.1)).Nodup/\∀ d,H d=none->Q (.ref d) (upd H d (.dK (kvs.map fun p=>(QK p.1,p.2))))):=by
 intro pins s σ H xs us Q I r h
 obtain ⟨t,ts,kvs,rfl,⟨W,hq0,hdn⟩,z,hsz,hp,hnd,q⟩:=h
 have hq:SqT X.K H t (ts.map V.ref):=.inl (.inr ⟨W,hq0⟩)
 have eo0:=(I.hok t _ hq0).1
 obtain ⟨u,rfl,ru⟩:=Yr r
 cases ru
 obtain ⟨its,rv,pt,hz⟩:=I.tuple hq
 have Z:=ZfF rv
 subst Z
 have B:∀ (kvs:List (Str×V)) (ts:List Addr),ts.length=kvs.length->(∀ (i:Nat) (a:Addr) (p:Str×V),ts[i]?=some a->kvs[i]?=some p->H a=some (.tup [.str p.1,p.2])) ->
     ∃ ps:List (Zj×Qb),KV (kvs.map fun p=>((QK p.1:Zj),p.2)) ps/\ps.length=kvs.length/\ps.map (·.1)=kvs.map (fun p=>(QK p.1:Zj))/\∀ (j:Nat) (v:Qb) (p:Zj×Qb),(ts.map QE)[j]?=some v->ps[j]?=some p->PairAt X.prog X.w s.heap v p:=by
   intro kvs
   induction kvs with
   | nil=>intro ts _ _;exact ⟨[],.nil,rfl,rfl,fun j v p _ e=>by simp at e⟩
   | cons kv r ih =>
     intro ts hl hh
     cases ts with
     | nil=>simp at hl
     | cons a ar =>
       obtain ⟨ps,k1,k2,k3,k4⟩:=ih ar (by simpa using hl) fun i b p e1 D=>hh (i+1) b p (by simpa using e1) (by simpa using D)
       obtain ⟨_,itv,rv',pa⟩:=(show ObjOk X.prog X.w H s.heap a (.tup [.str kv.1,kv.2]) from I.hok a _ (hh 0 a kv rfl rfl))
       cases rv' with
       | cons r1 rr =>
         cases rr with
         | cons r2 rr =>
           cases rr
           obtain ⟨tk,e⟩:=r1
           subst e
           rename_i u2
           refine ⟨(QK kv.1,u2)::ps,.cons ⟨rfl,r2⟩ k1,by rw [length_cons,length_cons,k2],by rw [map_cons,map_cons,k3],fun j v p e1 D=>?_⟩
           cases j with
           | zero =>
             cases (show some (QE a)=some v from e1)
             cases (show some ((QK kv.1:Zj),u2)=some p from D)
             exact ⟨a,.str kv.1 tk,rfl,pa,ZaM _ _ _ _⟩
           | succ j=>exact k4 j v p (by simpa using e1) (by simpa using D)
 obtain ⟨ps,k1,k2,k3,k4⟩:=B kvs ts z hp
 have Y:(ps.map (·.1)).Nodup:=by
   rw [k3]
   have:kvs.map (fun p=>(QK p.1:Zj))=(kvs.map (·.1)).map Sum.inr:=by rw [map_map];rfl
   rw [this]
   rw [List.Nodup,pairwise_map]
   exact hnd.imp fun h e=>h (by cases e;rfl)
 refine ZdU ps pt ⟨W,eo0,hdn⟩ (by rw [k2,size_toArray,length_map,z]) Y (by rw [k2];exact Zhf hsz) (I.ok.hd hc) (fun j v p e1 D=>k4 j v p (by simpa using e1) D) fun h' tk' kk hd=>?_
 have J:=I.big
 refine ⟨.ref s.heap.objs.size,_,I.laid (t':=tk') kk (Qe _) (show ObjOk X.prog X.w _ h' _ (.dK (kvs.map fun p=>((QK p.1:Zj),p.2))) from ⟨by rw [length_map];exact Zhf hsz,?_,ps,k1,hd⟩),rfl,q _ (I.hok.fresh (Qe _))⟩
 exact beq_eq_false_iff_ne.mpr (GI J)
end
section
variable {X:Cx}{pins:List (Addr×Obj)}{σ:List (Option V)}{H H':Hp}{s:Qf}{h':Heap}
theorem Inv.many {t':Nat}(I:Inv X pins σ H s)(k:∀ b u,s.heap.get? b=some u->h'.get? b=some u)(ext:Same H H')(new:∀ b,b < s.heap.objs.size->H' b=H b)(B:∀ b o,s.heap.objs.size<=b->H' b=some o->ObjOk X.prog X.w H' h' b o) :
 Inv X pins σ H' { s with heap:=h',toks:=t' }:=by
 refine I.step (g':=s.gens) (d':=s.drawn) (ch:=[]) (fun _ z=>nomatch z) (fun b o _ _ _ e _=>k b o e) (fun b o _ _ _ e _=>⟨o.slots,k b o e⟩) (fun b o _ e n=>by rw [new b (Qj e)];exact n) (fun b o _ e=>⟨o,k b o e⟩)
  (fun b xs e=>ext b _ e) (fun b o u e=>ext b _ e) (fun b ps e=>⟨#[],by rw [ext b _ e];simp⟩) (fun m J=>?_) (fun b u e=>?_) I.bare
 ·obtain ⟨o,es,ep,W,r⟩:=J
  exact ⟨o,es,ep,k _ o W,r⟩
 ·by_cases D:b < s.heap.objs.size
  ·rw [new b D] at e
   exact (I.hok b u e).stay (fun c v _ y=>k c v y) (fun c y=>ext c _ y) fun c xs y=>ext c _ y
  ·exact B b u (Nat.not_lt.mp D) e
end
def ZbB (v d:Addr):Heap->Prop:=fun h=>h.IsItemsView v d
def Vw (H:Hp):List (Addr×Zj×V)->Hp
 | []=>H
 | (a,k,v)::r=>upd (Vw H r) a (.tup [kV k,v])
theorem Zbd :∀{l:List (Addr×Zj×V)},b ∉ l.map (·.1)->Vw H l b=H b
 | [],_=>rfl
 | (a,k,v)::r,h=>by
  rw [map_cons,mem_cons,not_or] at h
  show upd (Vw H r) a _ b=_
  rw [Zl h.1];exact Zbd h.2
theorem Zgk :∀{l:List (Addr×Zj×V)},(l.map (·.1)).Nodup->(a,k,v)∈l->Vw H l a=some (.tup [kV k,v])
 | (b,k',v')::r,hn,hm=>by
  rw [map_cons,nodup_cons] at hn
  show upd (Vw H r) b _ a=_
  rcases mem_cons.mp hm with e | hm
  ·cases e;exact Zi
  ·rw [Zl (fun z:a=b=>hn.1 (by show b∈_;rw [<- z];exact mem_map.mpr ⟨_,hm,rfl⟩))]
   exact Zgk hn.2 hm
theorem Zom (r:KV kvs vs):∀{j:Nat}{k:Zj}{x:Qb},vs[j]?=some (k,x)->∃ v,kvs[j]?=some (k,v)/\RelV v x:=by
 induction r with
 | nil=>intro j k x e;simp at e
 | cons h t ih =>
  intro j k x e
  cases j with
  | zero =>
   cases (show some _=some (k,x) from e)
   rename_i a _ _
   refine ⟨a.2,?_,h.2⟩
   have e1:a.1=k:=h.1
   show some a=some (k,a.2)
   rw [<- e1]
  | succ j=>exact ih (by simpa using e)
section
variable {X:Cx}
theorem Zku:MtR X "dict.items" (fun x xs H Q=>∃ d kvs,x=.ref d/\xs=[]/\H d=some (.dK kvs)/\∀ v,H v=none->Q (.ref v) (upd H v (.ext (ZbB v d)))):=by
 intro pins s σ H x xs v us Q I D B h
 obtain ⟨d,kvs,rfl,rfl,e,q⟩:=h
 cases D
 cases B
 obtain ⟨hz,lo,vs,W,z⟩:=UB I.hok e
 refine Tz Rh z.typeIs PySem.F.entry_dict_items (PySem.F.args_dict_items_1 _) (meets_dict_items (ZB X.prog X.w) d lo) ⟨⟨vs,z⟩,?_⟩
 refine ⟨.ref s.heap.objs.size,_,I.laid (t':=s.toks) (fun b o y=>Qc _ y) (Qe _) (show ObjOk X.prog X.w _ _ _ (.ext (ZbB s.heap.objs.size d)) from ⟨⟨_,Qk _ rfl,rfl,rfl⟩,⟨_,Qk _ rfl⟩,?_⟩),rfl,q _ (I.hok.fresh (Qe _))⟩
 rintro h1 h2 ⟨o,J,r⟩ k
 exact ⟨o,k _ J,r⟩
theorem ZbG (hc:X.calm=true):Yv X (.type "list") (fun xs H Q=>∃ v d kvs,xs=[.ref v]/\H v=some (.ext (ZbB v d))/\H d=some (.dK kvs) /\
 ∀ (l:Addr) (ts:List Addr) (H2:Hp),H l=none->Same H H2->ts.length=kvs.length->(∀ a∈ts,H a=none)->(∀ (i:Nat) (a:Addr) (p:Zj×V),ts[i]?=some a->kvs[i]?=some p->H2 a=some (.tup [kV p.1,p.2]))->H2 l=some (.lst (ts.map V.ref))->Q (.ref l) H2):=by
 intro pins s σ H xs us Q I r h
 obtain ⟨v,d,kvs,rfl,ev,ed,q⟩:=h
 obtain ⟨u,rfl,ru⟩:=Yr r
 cases ru
 obtain ⟨hz,lo,vs,kv,o,es,ep,ho,r1,r2,r3,r4,r5⟩:=UB I.hok ed
 have W:vs.length=kvs.length:=(JB kv).symm
 refine kdx_call (knd:=ZB X.prog X.w) (kvs:=vs) (ep:=ep) (I.ok.hd hc) (I.hok v _ ev).1 ⟨o,es,ho,r1,r2,r3,r4,r5⟩ (by rw [W];exact hz) fun h' tk acc c as hk hS hl hG hacc=>?_
 have hl2:as.length=kvs.length:=by rw [hl,W]
 have hnd:as.Nodup:=hG.rise.imp fun h=>Qn h
 generalize hL:as.zip (kvs.map fun p=>p)=L
 have J:L.map (·.1)=as:=by
  rw [<- hL,NQ]
  exact Mn (by omega)
 have at_j:∀ (j:Nat) (a:Addr) (p:Zj×V),as[j]?=some a->kvs[j]?=some p->(a,p.1,p.2)∈L:=fun j a p e1 e2=>by
  rw [<- hL,NQ]
  exact mem_of_getElem? (i:=j) (by rw [getElem?_zip_eq_some];exact ⟨e1,e2⟩)
 have B:∀ a∈as,s.heap.objs.size < a:=hG.above
 have hfr:∀ b,s.heap.objs.size<=b->H b=none:=fun b Z=>I.hok.fresh Z
 have hnl:s.heap.objs.size ∉ L.map (·.1):=fun z=>by rw [J] at z;exact absurd (B _ z) (Gz _)
 have Y:∀ b,b < s.heap.objs.size->b ∉ L.map (·.1):=fun b Z z=>by rw [J] at z;exact absurd (Rx (B _ z) Z) (Gz _)
 have key:∀ b,b < s.heap.objs.size->upd (Vw H L) s.heap.objs.size (.lst (as.map V.ref)) b=H b:=fun b Z=>by rw [Zl (Qn Z),Zbd (Y b Z)]
 have sm:Same H (upd (Vw H L) s.heap.objs.size (.lst (as.map V.ref))):=fun b o e=>by rw [key b (I.hok.lt e)];exact e
 have D:∀ (j:Nat) (a:Addr) (p:Zj×V),as[j]?=some a->kvs[j]?=some p->upd (Vw H L) s.heap.objs.size (.lst (as.map V.ref)) a=some (.tup [kV p.1,p.2]):=fun j a p e1 e2=>by
  rw [Zl (GI (B a (mem_of_getElem? e1)))]
  exact Zgk (by rw [J];exact hnd) (at_j j a p e1 e2)
 have I2:Inv X pins σ (upd (Vw H L) s.heap.objs.size (.lst (as.map V.ref))) { s with heap:=h',toks:=tk }:=by
  refine I.many hk sm key fun b o Z e=>?_
  by_cases h0:b=s.heap.objs.size
  ·subst h0
   rw [Zi] at e
   cases e
   refine ⟨by rw [length_map,hl2];exact hz,acc.toList,c,?_,by rw [GY];exact hS⟩
   rw [hacc]
   clear hacc hl hG hl2 hnd hL J at_j B hnl Y key sm D
   induction as with
   | nil=>exact .nil
   | cons a r ih=>exact .cons rfl ih
  ·rw [Zl h0] at e
   by_cases hm:b∈as
   ·obtain ⟨j,hj⟩:=mem_iff_getElem?.mp hm
    obtain ⟨keyv,kk,x,e1,e2,e3⟩:=hG.pairs j b hj
    obtain ⟨vv,e4,rel⟩:=Zom kv e1
    have e5:=D j b (kk,vv) hj e4
    rw [Zl h0,e] at e5
    cases e5
    refine ⟨by show 2<=Qi;decide,[keyv,x],.cons ?_ (.cons rel .nil),⟨_,e3,rfl,_,rfl⟩⟩
    rw [Zcb] at e2
    rcases Yd e2 with ⟨i,tt,rfl,rfl⟩ | ⟨y,tt,rfl,rfl⟩
    ·exact ⟨tt,rfl⟩
    ·exact ⟨tt,rfl⟩
   ·rw [Zbd (by rw [J];exact hm),hfr b Z] at e
    cases e
 exact ⟨.ref s.heap.objs.size,_,I2,rfl,q _ as _ (hfr _ (Qe _)) sm hl2 (fun a ha=>hfr a (GG (B a ha))) D Zi⟩
theorem ZcF:Yv X (.type "dict") (fun xs H Q=>∃ d kvs,xs=[.ref d]/\H d=some (.dK kvs)/\∀ c,H c=none->Q (.ref c) (upd H c (.dK kvs))):=by
 intro pins s σ H xs us Q I r h
 obtain ⟨d,kvs,rfl,Y,q⟩:=h
 obtain ⟨u,rfl,Z⟩:=Yr r
 cases Z
 obtain ⟨hz,lo,vs,J,W⟩:=UB I.hok Y
 have z:vs.length=kvs.length:=(JB J).symm
 refine kt_call_dict (knd:=ZB X.prog X.w) lo W (by rw [z];exact hz) fun h' B D=>?_
 refine ⟨.ref s.heap.objs.size,_,I.laid (t':=s.toks) (fun b o y=>(D.2 b (Qn (Qj y))).trans (Qc _ y)) (Qe _) (show ObjOk X.prog X.w _ h' _ (.dK kvs) from ⟨hz,beq_eq_false_iff_ne.mpr (GI I.big),vs,J,B⟩),rfl,q _ (I.hok.fresh (Qe _))⟩
def Zqj:TE:=fun _ H Q=>∀ p o,H p=none->o.dict=none->Q (.ref p) (upd H p (.frz o (.tup [])))
theorem Zgs {B:Nat}:PE X (.Tuple [] B pos) Zqj:=by
 intro pins s σ H Q I Y
 refine OA (Zw (Za pos pins s σ H (fun xs H1=>xs=[]/\H1=H) I ⟨rfl,rfl⟩) fun us s1 D=>?_)
 obtain ⟨xs,H1,z,r,e1,J⟩:=D
 subst e1 J
 cases r
 refine ⟨Qw _,?_⟩
 have W:H1 s1.heap.objs.size=none:=z.hok.fresh (Qe _)
 exact ⟨.ref s1.heap.objs.size,_,z.laid (t':=s1.toks) (o:=.frz _ (.tup [])) (fun b u e=>Qc _ e) (Qe _) ⟨Qk _ rfl,Qw _,[],.nil,⟨_,Qk _ rfl,rfl,_,rfl⟩⟩,rfl,Y _ _ W rfl⟩
theorem ZaZ:Yv X (.type "tuple") (fun xs H Q=>∃ p ys,xs=[.ref p]/\SqL X.K H p ys/\∀ l o,H l=none->o.dict=none->Q (.ref l) (upd H l (.frz o (.tup ys)))):=by
 intro pins s σ H xs us Q I r h
 obtain ⟨p,ys,rfl,Z,q⟩:=h
 obtain ⟨u,rfl,Y⟩:=Yr r
 cases Y
 obtain ⟨z,B,pl,hz⟩:=I.list Z
 have W:=B.length
 refine MH pl.isList (fun h' kp=>?_) (by simp only [size_toArray]<;>omega)
 have J:Inv X pins σ H { s with heap:=h' }:=I.kept (t':=s.toks) kp
 have D:(h'.push { cls:=.type "tuple",data:=.seq z.toArray }).get? h'.objs.size=some { cls:=.type "tuple",data:=.seq z.toArray }:=Qk _ rfl
 exact ⟨.ref h'.objs.size,_,J.laid (t':=s.toks) (o:=.frz { cls:=.type "tuple",data:=.seq z.toArray } (.tup ys)) (fun b o e=>Qc _ e) (Qe _) ⟨D,hz,z,B,⟨_,D,rfl,_,rfl⟩⟩,rfl,q _ _ (J.hok.fresh (Qe _)) rfl⟩
end
section
variable {O:KeyOrd}{key:Nat->O.α}{n:Nat}{s:Qf}{cmp:Nat->Nat->(Bool->Qf->Prop)->Qf->Prop}
theorem Zor {B:Type}{l:List B}(h:l.Nodup){i j:Nat}{hi:i < l.length}{hj:j < l.length}(e:l[i]=l[j]):i=j:=by
 have p:=GS.mp h
 rcases Nat.lt_trichotomy i j with z | z | z
 ·exact absurd e (p i j hi hj z)
 ·exact z
 ·exact absurd e.symm (p j i hj hi z)
end
structure FunC (K:Qa)(x qual:Str)(st:Stmt)(f:Addr)(fd:Qm)(c Pl:Addr):Prop where
 ex:∃ (oc:Qb) (od:Option Addr) (kV doc pm:Qb) (an:Option Addr) (ct:Qb) (osl:Array (Option Qb)),
  fd=Po x qual (Zaw st) (XO st) (Zk st) .none kV doc pm an (.ref c) ct/\K.lookup f=some ⟨oc,od,.func fd,osl⟩/\Oj K (.ref c) qual=true
 kp:Jn K (.ref f)=true
 hd:codeHdIn K c Pl=true
section
variable {P:Ql}{w:Qs}{K:Qa}{mg:Str->Option Qb}{base:Heap}
theorem FunC.ok {x qual:Str}{st:Stmt}{f c Pl:Addr}{fd:Qm}{N ps:List Str}{k:Nat}{sp:Sp}(F:FunC K x qual st f fd c Pl)(S:Zp N ps (Zk st)) 
 (z:∀ (A:QL) (outer:List Env) (s:Qf) (H:Hp) (vs:List V) (Q:VK) (E:XK),Room k (A.deeper (Rt qual (Zk st) s.heap.objs.size f (.ref c)))->sp vs H Q E ->
  ∃ t,PSs (ZR ZJ P w K mg base N qual (Zk st) f (.ref c) A outer s H E).nox (XO st) t/\t { nx:=fun _ H'=>Q .non H',rt:=Q } (start N vs) H) (len:∀ vs H Q E,sp vs H Q E->vs.length=ps.length:=by intro _ _ _ _ h;first | (cases h;subst_vars;rfl) | (repeat (first | exact congrArg GX h.1 | (obtain ⟨_,h⟩:=h)))):FnOk P w K mg base ZJ (k+1) f fd ps sp:=by
 obtain ⟨oc,Z,kV,Y,pm,an,ct,J,rfl,lk,B⟩:=F.ex
 refine ZlR lk B S len fun A outer s H vs Q E W D=>?_
 obtain ⟨t,h,q⟩:=z A outer s H vs Q E W D
 exact ⟨t,h.nox,q⟩
theorem FunC.fn {x qual:Str}{st:Stmt}{f c Pl:Addr}{fd:Qm}(F:FunC K x qual st f fd c Pl):Fun K x qual st f fd:=by
 obtain ⟨Y,J,kV,D,pm,Z,W,z,e,lk,B⟩:=F.ex
 exact ⟨⟨Y,J,kV,D,pm,Z,.ref c,W,z,e,lk,B⟩,F.kp⟩
end
theorem ZlZ {X:Cx}{st:Stmt}:PS X st (fun _ _ _=>False):=fun _ _ _ _ _ _ h=>h.elim
structure TF (H H':Hp):Prop where
 tup:∀ b xs,H b=some (.tup xs)->H' b=some (.tup xs)
 frz:∀ b o u,H b=some (.frz o u)->H' b=some (.frz o u)
theorem TF.trans (a:TF H H1)(b:TF H1 H2):TF H H2:=⟨fun x xs h=>b.tup x xs (a.tup x xs h),fun x o u h=>b.frz x o u (a.frz x o u h)⟩
theorem Same.tf (h:Same H H'):TF H H':=⟨fun b _ e=>h b _ e,fun b _ _ e=>h b _ e⟩
theorem Grown.tf (h:Grown Pl H H')(e:H Pl=some (.tbl ps)):TF H H' :=
 ⟨fun b _ y=>h b _ (fun z=>by rw [z,e] at y;cases y) y,fun b _ _ y=>h b _ (fun z=>by rw [z,e] at y;cases y) y⟩
theorem LamAt.tbl (h:LamAt H Pl lpos qual):∃ ps,H Pl=some (.tbl ps):=by
 rcases h with h | ⟨_,h,_⟩
 ·exact ⟨_,h⟩
 ·exact ⟨_,h⟩
theorem Zcv {o:HO}(h:H l=some (.lst xs)):TF H (upd H l o) :=
 ⟨fun b _ y=>by rw [Zl (fun z=>by rw [z,h] at y;cases y)];exact y,fun b _ _ y=>by rw [Zl (fun z=>by rw [z,h] at y;cases y)];exact y⟩
theorem Znz {o:HO}(h:H l=some (.dK xs)):TF H (upd H l o) :=
 ⟨fun b _ y=>by rw [Zl (fun z=>by rw [z,h] at y;cases y)];exact y,fun b _ _ y=>by rw [Zl (fun z=>by rw [z,h] at y;cases y)];exact y⟩
theorem SqT.tf {K:Qa}{H H':Hp}{a:Addr}{xs:List V}(h:SqT K H a xs)(t:TF H H'):SqT K H' a xs:=by
 rcases h with (h | ⟨o,h⟩) | h
 ·exact .inl (.inl (t.tup _ _ h))
 ·exact .inl (.inr ⟨o,t.frz _ _ _ h⟩)
 ·exact .inr h
inductive Nd where
 | bare
 | leaf (m:Int) (ps:List (Str×V))
 | fork (qs:List Nat)
def Nd.parts:Nd->List Nat
 | .fork qs=>qs
 | _=>[]
def Nd.pairs:Nd->List (Str×V)
 | .leaf _ ps=>ps
 | _=>[]
def Nd.hasM (n:Int):Nd->Bool
 | .leaf m _=>decide (m=n)
 | _=>false
def PairT (H:Hp)(ts:List Addr)(ps:List (Str×V)):Prop:=ts.length=ps.length/\∀(i:Nat)(a:Addr)(p:Str×V),ts[i]?=some a->ps[i]?=some p->H a=some (.tup [.str p.1,p.2])
def PairsAt (H:Hp)(t:Addr)(ps:List (Str×V)):Prop:=∃ o ts,H t=some (.frz o (.tup (ts.map V.ref)))/\o.dict=none/\PairT H ts ps
def NodeAt (K:Qa)(H:Hp)(a:Addr):Nd->Prop
 | .bare=>SqT K H a [.str "bare"]
 | .leaf m ps=>∃ t,SqT K H a [.str "leaf",.int m,.ref t]/\PairsAt H t ps
 | .fork qs=>∃ t,SqT K H a [.str "fork",.ref t]/\SqT K H t (qs.map fun q:Nat=>V.int (q:Int))/\qs.length=4
theorem PairT.tf (h:PairT H ts ps)(t:TF H H'):PairT H' ts ps:=⟨h.1,fun i a p e1 z=>t.tup _ _ (h.2 i a p e1 z)⟩
theorem PairsAt.tf (h:PairsAt H t ps)(f:TF H H'):PairsAt H' t ps:=by
 obtain ⟨o,ts,e,d,p⟩:=h
 exact ⟨o,ts,f.frz _ _ _ e,d,p.tf f⟩
theorem NodeAt.tf {K:Qa}{H H':Hp}{a:Addr}{n:Nd}(h:NodeAt K H a n)(f:TF H H'):NodeAt K H' a n:=by
 cases n with
 | bare=>exact SqT.tf h f
 | leaf m ps=>obtain ⟨t,e,p⟩:=h;exact ⟨t,e.tf f,p.tf f⟩
 | fork qs=>obtain ⟨t,e,p,l⟩:=h;exact ⟨t,e.tf f,p.tf f,l⟩
inductive Wm (K:Qa)(vs:List V)(H:Hp)(Q:VK)(w_3:XK):Prop
 | mk (a:Addr) (n:Nd):vs=[.ref a]->NodeAt K H a n->(∀ t H',Same H H'->SqT K H' t (n.parts.map fun q:Nat=>V.int (q:Int))->Q (.ref t) H')->Wm K vs H Q w_3
inductive Xx (K:Qa)(vs:List V)(H:Hp)(Q:VK)(w_3:XK):Prop
 | mk (a:Addr) (n:Nd):vs=[.ref a]->NodeAt K H a n->(∀ t H',Same H H'->PairsAt H' t n.pairs->Q (.ref t) H')->Xx K vs H Q w_3
inductive Vd (K:Qa)(vs:List V)(H:Hp)(Q:VK)(w_3:XK):Prop
 | mk (a:Addr) (n:Nd) (m:Int):vs=[.ref a,.int m]->NodeAt K H a n->Q (.bl (n.hasM m)) H->Vd K vs H Q w_3
inductive WK (K:Qa)(vs:List V)(H:Hp)(Q:VK)(w_3:XK):Prop
 | mk (l:Addr) (qs:List Nat):vs=[.ref l]->(H l=some (.lst (qs.map fun q:Nat=>V.int (q:Int))))->qs.length=4->(∀ a H',Same H H'->NodeAt K H' a (.fork qs)->Q (.ref a) H')->WK K vs H Q w_3
end L2
namespace L2
open PySem
def CompV (J:It)(tc:TT)(te:TE)(σ:St)(D:Addr)(Q:VK)(H1:Hp):Prop :=
 ∃ W : Nat->Nat->List V->Hp->Prop,(∃ m,W 0 m [] (upd H1 D (.lst [])))/\∀ i m ys H2,W i m ys H2 ->
  (J.stop i H2/\Q (.ref D) H2)\/(J.go i H2/\∃ (N:VK) (M:Hp->Prop),(∀ y H4,N y H4->H4 D=some (.lst ys)/\ys.length < Qi/\∃ m',m' < m/\W (i+1) m' (ys++[y]) (upd H4 D (.lst (ys++[y]))))/\(∀ H4,M H4->∃ m',m' < m/\W (i+1) m' ys H4) /\
   ∀ v H3,J.yld i H2 v H3->tc (σ++[some v]) H3 fun b H4=>if b=true then te (σ++[some v]) H4 N else M H4)
def Zpc (wi:TI)(tc:TT)(te:TE):TE:=fun σ H Q=>wi σ H fun J H1=>∀ D,H1 D=none->CompV J tc te σ D Q H1
theorem CompV.n {J:It}{tc:TT}{te:TE}{σ:St}{D:Addr}{Q:VK}{H:Hp}{n:Nat}(hn:σ.length=n)(h:CompV J tc te σ D Q H):Vg J (Vt n) tc te 1 (fun σ B=>∃ w,B=σ++[w]) σ D Q H:=by
 obtain ⟨W,w0,t⟩:=h
 refine ⟨W,w0,fun i m ys H2 Z=>(t i m ys H2 Z).imp (fun z=>z) fun zz=>?_⟩
 obtain ⟨go,N,M,hN,hM,hy⟩:=zz
 refine ⟨go,N,M,hN,hM,fun ws v Y hl y=>?_⟩
 match ws,hl with
 | [w],_ =>
  show (∃ w',(σ++[w]).set n (some v)=σ++[w'])/\tc ((σ++[w]).set n (some v)) Y _
  rw [set1 hn]
  exact ⟨⟨_,rfl⟩,hy v Y y⟩
section
variable {X:Cx}{elt iter cnd:Expr}{x:Str}{px pos:Pos}{scope:Scope}{wi:TI}{te:TE}{tc:TT}
theorem UQ {i:Nat}(O:CompOk X scope x)(hc:X.calm=true)(hN:X.N.Nodup)(hiN:X.N[i]?=some y)(hy:Loc X.env.scope y)(hi:PI X (.Name x px) iter wi)(hcn:∀ Y C z B fp,PT (ZeB X scope x Y C z B fp) cnd tc)(he:∀ Y C z B fp,PE (ZeB X scope x Y C z B fp) elt te)(Z:SX (.ListComp elt [⟨.Name x px,iter,[cnd],0⟩] scope pos) (some (.Name y py)) W.line X.env=pure true)(hf:X.fn y=true\/X.env.scope.names.lookup y=some .local:=by first | exact .inl rfl | exact .inr rfl | assumption)(hs:∀ v,GA iter X.env v=pure v:=by intro _;rfl):PS X (.Assign [.Name y py] (.ListComp elt [⟨.Name x px,iter,[cnd],0⟩] scope pos) W) (ZhV (Zpc wi tc te) (Vt i)) :=
 ZfS (CW:=fun J σ D Q H=>CompV J tc te σ D Q H) O hc hN hiN hy hi (fun _ _ _ _ _ hl h=>h.n hl) ok1 (Zjg O) (fun Y C z B fp=>.inr ⟨_,rfl,hcn Y C z B fp⟩) he Z hf hs
end
theorem Zin {K:Qa}(hn:xs.length<=Qi)(z:Nat->List V->Hp->Prop)(h0:z 0 [] (upd H D (.lst [])))(Z:∀ i ys H,z i ys H->ys.length<=i/\SqT K H a xs)(hs:∀ i x ys H,xs[i]?=some x->z i ys H->tc (σ++[some x]) H fun b W=>if b=true then te (σ++[some x]) W fun y J=>J D=some (.lst ys)/\z (i+1) (ys++[y]) (upd J D (.lst (ys++[y]))) else z (i+1) ys W)(hd:∀ ys H,z xs.length ys H->Q (.ref D) H):CompV (Itt K a) tc te σ D Q H:=by
 refine ⟨fun i m ys H=>m=xs.length - i/\i<=xs.length/\z i ys H,⟨xs.length,by simp,Qw _,h0⟩,?_⟩
 rintro i m ys H2 ⟨rfl,hi,p⟩
 obtain ⟨Y,q⟩:=Z i ys _ p
 by_cases B:i < xs.length
 ·refine .inr ⟨⟨xs,xs[i],q,by simp [B]⟩,_,_,fun y J (q:J D=some (.lst ys)/\z (i+1) (ys++[y]) (upd J D (.lst (ys++[y]))))=>⟨q.1,by omega,xs.length - (i+1),by omega,rfl,B,q.2⟩,fun J (q:z (i+1) ys J)=>⟨xs.length - (i+1),by omega,rfl,B,q⟩,fun v W y=>?_⟩
  obtain ⟨e,y⟩:=y
  subst e
  exact hs i v ys _ (y xs q) p
 ·have e:i=xs.length:=by omega
  subst e
  exact .inl ⟨⟨xs,q,Qe _⟩,hd ys H2 p⟩
theorem ZgX {K:Qa}(hn:xs.length<=Qi)(z:Nat->List V->Hp->Prop)(h0:z 0 [] (upd H D (.lst [])))(Z:∀ i ys H,z i ys H->ys.length<=i/\SqL K H a xs)(hs:∀ i x ys H,xs[i]?=some x->z i ys H->tc (σ++[some x]) H fun b W=>if b=true then te (σ++[some x]) W fun y J=>J D=some (.lst ys)/\z (i+1) (ys++[y]) (upd J D (.lst (ys++[y]))) else z (i+1) ys W)(hd:∀ ys H,z xs.length ys H->Q (.ref D) H):CompV (Itl K a) tc te σ D Q H:=by
 refine ⟨fun i m ys H=>m=xs.length - i/\i<=xs.length/\z i ys H,⟨xs.length,by simp,Qw _,h0⟩,?_⟩
 rintro i m ys H2 ⟨rfl,hi,p⟩
 obtain ⟨Y,q⟩:=Z i ys _ p
 by_cases B:i < xs.length
 ·refine .inr ⟨⟨xs,xs[i],q,by simp [B]⟩,_,_,fun y J (q:J D=some (.lst ys)/\z (i+1) (ys++[y]) (upd J D (.lst (ys++[y]))))=>⟨q.1,by omega,xs.length - (i+1),by omega,rfl,B,q.2⟩,fun J (q:z (i+1) ys J)=>⟨xs.length - (i+1),by omega,rfl,B,q⟩,fun v W y=>?_⟩
  obtain ⟨e,y⟩:=y
  subst e
  exact hs i v ys _ (y xs q) p
 ·have e:i=xs.length:=by omega
  subst e
  exact .inl ⟨⟨xs,q,Qe _⟩,hd ys H2 p⟩
end L2
namespace L2
open PySem PySem.Spec PyProof.Rows
def CompT (J:It)(g:TG)(te:TE)(σ:St)(D:Addr)(Q:VK)(H1:Hp):Prop :=
 ∃ W:Nat->Nat->List V->Hp->Prop,(∃ m,W 0 m [] (upd H1 D (.lst [])))/\∀ i m ys H2,W i m ys H2 ->
  (J.stop i H2/\Q (.ref D) H2)\/(J.go i H2/\∃ N:VK,(∀ y H4,N y H4->H4 D=some (.lst ys)/\ys.length < Qi/\∃ m',m' < m/\W (i+1) m' (ys++[y]) (upd H4 D (.lst (ys++[y]))))/\∀ wa wb v H3,J.yld i H2 v H3->g v (σ++[wa,wb]) H3 fun σ' H'=>(∃ wa wb,σ'=σ++[wa,wb])/\te σ' H' N)
def Zpb (wi:TI)(g:TG)(te:TE):TE:=fun σ H Q=>wi σ H fun J H1=>∀ D,H1 D=none->CompT J g te σ D Q H1
theorem ok2:∀ σ z:St,(∃ B D,z=σ++[B,D])->∃ J:St,J.length=[xa,xb].length/\z=σ++J:=fun _ _ ⟨B,D,e⟩=>⟨[B,D],rfl,e⟩
theorem CompT.n (h:CompT J g te σ D Q H):Vg J g ZlE te 2 (fun σ Z=>∃ B Y,Z=σ++[B,Y]) σ D Q H:=by
 obtain ⟨W,w0,t⟩:=h
 refine ⟨W,w0,fun i m ys H2 w2=>(t i m ys H2 w2).imp (fun z=>z) fun zz=>?_⟩
 obtain ⟨go,N,hN,hy⟩:=zz
 refine ⟨go,N,fun _=>False,hN,fun _ z=>z.elim,fun ws v H3 hl y=>?_⟩
 match ws,hl with
 | [B,Y],_=>exact hy B Y v H3 y
section
variable {X:Cx}{elt iter tg:Expr}{xa xb:Str}{pos:Pos}{scope:Scope}{wi:TI}{te:TE}{g:TG}
theorem Vz (O:CompOkT X scope xa xb)(hc:X.calm=true)(hi:PI X tg iter wi)(Y:∀ W C z B fp,PG (UW X scope xa xb W C z B fp) tg g)(Z:∀ W C z B fp,PE (UW X scope xa xb W C z B fp) elt te)
 (hs:∀ v,GA iter X.env v=pure v:=by intro _;rfl):PE X (.ListComp elt [⟨tg,iter,[],0⟩] scope pos) (Zpb wi g te) :=
 Zbk (CW:=fun J σ D Q H=>CompT J g te σ D Q H) O hc hi (fun _ _ _ _ _ _ h=>h.n) ok2 Y (fun _ _ _ _ _=>.inl ⟨rfl,rfl⟩) Z hs
end
def CompVT (J:It)(g:TG)(tc:TT)(te:TE)(σ:St)(D:Addr)(Q:VK)(H1:Hp):Prop :=
 ∃ W : Nat->Nat->List V->Hp->Prop,(∃ m,W 0 m [] (upd H1 D (.lst [])))/\∀ i m ys H2,W i m ys H2 ->
  (J.stop i H2/\Q (.ref D) H2)\/(J.go i H2/\∃ (N:VK) (M:Hp->Prop),(∀ y H4,N y H4->H4 D=some (.lst ys)/\ys.length < Qi/\∃ m',m' < m/\W (i+1) m' (ys++[y]) (upd H4 D (.lst (ys++[y]))))/\(∀ H4,M H4->∃ m',m' < m/\W (i+1) m' ys H4) /\
   ∀ wa wb v H3,J.yld i H2 v H3->g v (σ++[wa,wb]) H3 fun σ' H'=>(∃ wa wb,σ'=σ++[wa,wb])/\tc σ' H' fun b H4=>if b=true then te σ' H4 N else M H4)
def Znw (wi:TI)(g:TG)(tc:TT)(te:TE):TE:=fun σ H Q=>wi σ H fun J H1=>∀ D,H1 D=none->CompVT J g tc te σ D Q H1
theorem CompVT.n (h:CompVT J g tc te σ D Q H):Vg J g tc te 2 (fun σ Z=>∃ B Y,Z=σ++[B,Y]) σ D Q H:=by
 obtain ⟨W,w0,t⟩:=h
 refine ⟨W,w0,fun i m ys H2 w2=>(t i m ys H2 w2).imp (fun z=>z) fun zz=>?_⟩
 obtain ⟨go,N,M,hN,hM,hy⟩:=zz
 refine ⟨go,N,M,hN,hM,fun ws v H3 hl y=>?_⟩
 match ws,hl with
 | [B,Y],_=>exact hy B Y v H3 y
section
variable {X:Cx}{elt iter tg cnd:Expr}{xa xb:Str}{pos:Pos}{scope:Scope}{wi:TI}{te:TE}{tc:TT}{g:TG}
theorem Zjf (O:CompOkT X scope xa xb)(hc:X.calm=true)(hi:PI X tg iter wi)(Z:∀ W C z B fp,PG (UW X scope xa xb W C z B fp) tg g)(Y:∀ W C z B fp,PT (UW X scope xa xb W C z B fp) cnd tc)(he:∀ W C z B fp,PE (UW X scope xa xb W C z B fp) elt te)
 (hs:∀ v,GA iter X.env v=pure v:=by intro _;rfl):PE X (.ListComp elt [⟨tg,iter,[cnd],0⟩] scope pos) (Znw wi g tc te) :=
 Zbk (CW:=fun J σ D Q H=>CompVT J g tc te σ D Q H) O hc hi (fun _ _ _ _ _ _ h=>h.n) ok2 Z (fun W C z B fp=>.inr ⟨_,rfl,Y W C z B fp⟩) he hs
end
end L2
namespace L2
open PySem
def YI:HO->Bool
 | .tup _=>false
 | .frz _ _=>false
 | .own _=>false
 | .met _ _=>false
 | .rng _ _=>false
 | .ext _=>false
 | _=>true
def WO (H h:Hp):Hp:=fun b=>match h b with
 | some o=>if YI o=true then none else H b
 | none=>H b
def one (p:Addr)(o:HO):Hp:=fun b=>if b=p then some o else none
theorem one_some :one p o b=some u↔b=p/\o=u:=by
 unfold one
 by_cases h:b=p
 ·rw [if_pos h];exact ⟨fun z=>⟨h,Qo z⟩,fun z=>by rw [z.2]⟩
 ·rw [if_neg h];exact ⟨fun z=>(by cases z),fun z=>absurd z.1 h⟩
abbrev YB:=Addr->Hp->Prop
abbrev Rs:=List (Addr×YB)
def Sep:Rs->Hp->Prop
 | [],_=>True
 | (a,R)::Δ,H=>∃ h,Same h H/\R a h/\Sep Δ (WO H h)
theorem cut_some :WO H h b=some o↔H b=some o/\∀ u,h b=some u->YI u=false:=by
 unfold WO
 cases e:h b with
 | none=>exact ⟨fun z=>⟨z,fun u q=>by cases q⟩,fun z=>z.1⟩
 | some v =>
  cases m:YI v with
  | true=>show (if YI v=true then none else H b)=some o↔_;rw [if_pos m];exact ⟨fun z=>(by cases z),fun z=>(by have:=z.2 v rfl;rw [m] at this;cases this)⟩
  | false=>show (if YI v=true then none else H b)=some o↔_;rw [if_neg (by rw [m];decide)];exact ⟨fun z=>⟨z,fun u q=>(by cases q;exact m)⟩,fun z=>z.1⟩
theorem WP :Same (WO H h) H:=fun b o e=>(cut_some.mp e).1
theorem ZeE (s:Same H H'):Same (WO H h) (WO H' h):=fun b o e=>let ⟨x,y⟩:=cut_some.mp e;cut_some.mpr ⟨s _ _ x,y⟩
theorem Sep.mono:∀{Δ:Rs}{H H':Hp},Sep Δ H->Same H H'->Sep Δ H'
 | [],_,_,_,_=>trivial
 | (_,_)::_,_,_,⟨h,l,r,S⟩,s=>⟨h,l.trans s,r,S.mono (ZeE s)⟩
theorem Sep.swap (S:Sep ((a,R)::(b,T)::Δ) H):Sep ((b,T)::(a,R)::Δ) H:=by
 obtain ⟨h,l,r,g,m,t,S⟩:=S
 refine ⟨g,m.trans WP,t,h,fun c o e=>cut_some.mpr ⟨l _ _ e,fun u q=>?_⟩,r,S.mono fun c o e=>?_⟩
 ·obtain ⟨D,W⟩:=cut_some.mp (m _ _ q)
  have z:=l _ _ e
  rw [D] at z;cases z
  exact W _ e
 ·obtain ⟨e1,z⟩:=cut_some.mp e
  obtain ⟨B,J⟩:=cut_some.mp e1
  exact cut_some.mpr ⟨cut_some.mpr ⟨B,z⟩,J⟩
theorem Sep.tail (S:Sep ((a,R)::Δ) H):Sep Δ H:=by
 obtain ⟨h,l,r,S⟩:=S
 exact S.mono WP
class Pull (a:Addr) (Δ:Rs) (R:outParam YB) (Δ':outParam Rs):Prop where
 out:∀ {H},Sep Δ H->Sep ((a,R)::Δ') H
instance (priority:=1000) Pull.here {a:Addr} {R:YB} {Δ:Rs}:Pull a ((a,R)::Δ) R Δ:=⟨fun S=>S⟩
instance (priority:=900) Pull.there {a b:Addr} {R T:YB} {Δ Δ':Rs} [P:Pull a Δ R Δ']:Pull a ((b,T)::Δ) R ((b,T)::Δ') :=
 ⟨fun S=>by
  obtain ⟨h,l,r,S⟩:=S
  exact Sep.swap ⟨h,l,r,P.out S⟩⟩
theorem Sep.pull (S:Sep Δ H)(a:Addr)[P:Pull a Δ R z]:Sep ((a,R)::z) H:=P.out S
theorem Sep.drop (S:Sep Δ H)(a:Addr)[P:Pull a Δ R z]:Sep z H:=(P.out S).tail
class Up (R:YB):Prop where
 up:∀ {a:Addr} {H H':Hp},R a H->Same H H'->R a H'
theorem Sep.get (S:Sep Δ H)(a:Addr)[P:Pull a Δ R z][U:Up R]:R a H:=by
 obtain ⟨h,l,r,_⟩:=P.out S
 exact U.up r l
def Pt (o:HO):YB:=fun a h=>h a=some o
abbrev Zv (xs:List V):YB:=Pt (.lst xs)
abbrev Dic (kv:List (Zj×V)):YB:=Pt (.dK kv)
abbrev Tup (xs:List V):YB:=Pt (.tup xs)
instance {o:HO}:Up (Pt o):=⟨fun h s=>s _ _ h⟩
theorem Sep.new (S:Sep Δ H){p:Addr}(hp:H p=none)(o:HO):Sep ((p,Pt o)::Δ) (upd H p o):=by
 refine ⟨one p o,fun b u e=>?_,one_some.mpr ⟨rfl,rfl⟩,S.mono fun b u e=>?_⟩
 ·obtain ⟨rfl,rfl⟩:=one_some.mp e;exact Zi
 ·have z:=Zs e hp
  exact cut_some.mpr ⟨by rw [Zl z];exact e,fun v q=>absurd (one_some.mp q).1 z⟩
theorem Sep.made (S:Sep Δ H)(s:Same H H')(hp:H p=none)(e:H' p=some o):Sep ((p,Pt o)::Δ) H':=by
 refine ⟨one p o,fun b u q=>?_,one_some.mpr ⟨rfl,rfl⟩,S.mono fun b u q=>?_⟩
 ·obtain ⟨rfl,rfl⟩:=one_some.mp q;exact e
 ·have z:=Zs q hp
  exact cut_some.mpr ⟨s _ _ q,fun v q=>absurd (one_some.mp q).1 z⟩
theorem Sep.put (S:Sep Δ H)(a:Addr)(o':HO)[P:Pull a Δ (Pt o) B](m:YI o=true:=by rfl):Sep ((a,Pt o')::B) (upd H a o'):=by
 obtain ⟨h,l,r,S⟩:=P.out S
 refine ⟨one a o',fun b u q=>?_,one_some.mpr ⟨rfl,rfl⟩,S.mono fun b u q=>?_⟩
 ·obtain ⟨rfl,rfl⟩:=one_some.mp q;exact Zi
 ·obtain ⟨J,W⟩:=cut_some.mp q
  have D:b≠a:=fun z=>by
   have:=W o (by rw [z];exact r)
   rw [m] at this;cases this
  exact cut_some.mpr ⟨by rw [Zl D];exact J,fun v q=>absurd (one_some.mp q).1 D⟩
theorem Sep.say (S:Sep Δ H)(a:Addr)(T:YB)[P:Pull a Δ R z](f:∀ h,R a h->T a h):Sep ((a,T)::z) H:=by
 obtain ⟨h,l,r,S⟩:=P.out S
 exact ⟨h,l,f h r,S⟩
theorem Sep.call {Δ:Rs}{H H':Hp}{a:Addr}{R T:YB}{L:List Addr}(S:Sep ((a,R)::Δ) H)(k:∀ b o,b ∉ L->H b=some o->H' b=some o)
 (f:∀ h,Same h H->R a h->(∀ b∈L,∃ o,h b=some o/\YI o=true)/\∃ h',Same h' H'/\T a h'/\∀ b o,h' b=some o->YI o=true->b∈L\/H b=none\/∃ u,h b=some u/\YI u=true):Sep ((a,T)::Δ) H':=by
 obtain ⟨h,l,r,S⟩:=S
 obtain ⟨Z,h',l',t,f2⟩:=f h l r
 refine ⟨h',l',t,S.mono fun b o e=>?_⟩
 obtain ⟨e1,D⟩:=cut_some.mp e
 have J:b ∉ L:=fun z=>by
  obtain ⟨u,q1,W⟩:=Z b z
  rw [D u q1] at W;cases W
 refine cut_some.mpr ⟨k b o J e1,fun u q=>?_⟩
 cases m:YI u with
 | false=>rfl
 | true =>
  rcases f2 b u q m with z | z | ⟨v,Y,B⟩
  ·exact absurd z J
  ·rw [e1] at z;cases z
  ·rw [D v Y] at B;cases B
abbrev Bx (n:Nat):YB:=fun a h=>BoxAt h a n
instance {n:Nat}:Up (Bx n):=⟨fun h s=>h.same s⟩
theorem Sep.box {n m:Nat}(S:Sep ((p,Bx n)::Δ) H)(k:Kp p H H')(B:BoxAt H' p m):Sep ((p,Bx m)::Δ) H':=by
 refine S.call (L:=[p]) (fun b o D e=>k b o (fun z=>D (by simp [z])) e) fun h l r=>⟨fun b J=>?_,?_⟩
 ·rw [mem_singleton.mp J]
  obtain ⟨x,y,z,e,_⟩:=r
  exact ⟨_,e,rfl⟩
 ·obtain ⟨x,y,z,e,w⟩:=B
  refine ⟨one p (.lst [.int x,.int y,.int z]),fun b u q=>?_,⟨x,y,z,one_some.mpr ⟨rfl,rfl⟩,w⟩,fun b o q _=>.inl (by simp [(one_some.mp q).1])⟩
  obtain ⟨rfl,rfl⟩:=one_some.mp q;exact e
inductive Zde (M:Int)(vs:List V)(H:Hp)(Q:VK)(w_3:XK):Prop
 | mk (p:Addr) (n:Nat) (m:Int) (Δ:Rs):vs=[.ref p,.int m]->Sep ((p,Bx n)::Δ) H->n<=1000000->0 < m->m < M->(∀ (r:Int) (H':Hp),0<=r->r < m->Sep ((p,Bx (n+1))::Δ) H'->Q (.int r) H')->Zde M vs H Q w_3
theorem Zpk {M:Int}(h:Zde M vs H Q E):Zan M vs H Q E:=by
 obtain ⟨p,n,m,Δ,e,S,h1,h2,z,q⟩:=h
 exact ⟨p,n,m,e,S.get p,h1,h2,z,fun r H' a b B k=>q r H' a b (S.box k B)⟩
theorem ZhG (h:ZgU u=some x):RelV x u:=by
 cases u<;>first | (cases h;exact rfl) | (cases h;exact ⟨_,rfl⟩) | cases h
theorem ZaP:∀{xs:List V}{us:List Qb},us.map ZgU=xs.map some->Vals xs us
 | [],[],_=>.nil
 | [],_::_,h=>by cases h
 | _::_,[],h=>by cases h
 | x::xs,u::us,h=>by
  rw [map_cons,map_cons,List.cons.injEq] at h
  exact .cons (ZhG h.1) (ZaP h.2)
def Zen (K:Qa)(a:Addr)(vs:List V):Bool:=match K.lookup a with
 | some ⟨.type "tuple",_,.seq its _,_⟩=>decide (its.size<=100000)&&decide (its.toList.map ZgU=vs.map some)
 | _=>false
theorem ZfD (h:Zen K a vs=true)(H:Hp):SqT K H a vs:=by
 unfold Zen at h
 split at h
 ·rename_i z n _ B
  simp only [QO,decide_eq_true_eq] at h
  exact .inr ⟨_,z,n,B,rfl,rfl,Qr h.1 (by decide),ZaP h.2⟩
 ·cases h
structure Yl (mg:Str->Option Qb):Prop where
 len:mg "len"=none
 abs:mg "abs"=none
 int:mg "int"=none
 range:mg "range"=none
 min:mg "min"=none
 max:mg "max"=none
 repr:mg "repr"=none
 enumerate:mg "enumerate"=none
 ord:mg "ord"=none
 list:mg "list"=none
 tuple:mg "tuple"=none
 dict:mg "dict"=none
 sorted:mg "sorted"=none
 sum:mg "sum"=none
 all:mg "all"=none
 any:mg "any"=none
 divmod:mg "divmod"=none
 str:mg "str"=none
 isinstance:mg "isinstance"=none
 set:mg "set"=none
 zip:mg "zip"=none
 reversed:mg "reversed"=none
 bool:mg "bool"=none
abbrev DTk (P:Ql)(w:Qs)(K:Qa)(mg:Str->Option Qb)(base:Heap)(k:Nat):Prop:=Def P w K mg base k "_law_take" ["_law_box_here","_law_many"] (Zde 4611686018427387904)
theorem FnOk.conv {k:Nat}{sp sp':Sp}(F:FnOk P w K mg base ZJ k f fd ps sp)(h:∀ vs H Q E,sp' vs H Q E->sp vs H Q E):FnOk P w K mg base ZJ k f fd ps sp' :=
 ⟨fun vs H Q E z=>F.len vs H Q E (h vs H Q E z),fun A outer s H args us vs Q E J B W D z=>F.run A outer s H args us vs Q E J B W D (h vs H Q E z)⟩
theorem Def.conv {k:Nat}{sp sp':Sp}(D:Def P w K mg base k x ps sp)(h:∀ vs H Q E,sp' vs H Q E->sp vs H Q E):Def P w K mg base k x ps sp' :=
 let ⟨f,fd,F,b,kp,m⟩:=D;⟨f,fd,F.conv h,b,kp,m⟩
theorem ZbC {B:Type}{xs:List B}{r:Int}{v:B}(D:0<=r)(h:xs[r.toNat]?=some v):Xd xs r=some v:=by
 have z:Xd xs ((r.toNat:Nat):Int)=some v:=Zr h
 rwa [show ((r.toNat:Nat):Int)=r by omega] at z
theorem Yy {n m:Nat}(h:n<=m)(z:m<=100000:=by decide):n<=sizeLine:=Qr (Qr h z) (by decide)
theorem YX {n m:Nat}(h:n<=m)(z:m<=100000:=by decide):n < sizeLine:=QT (Qr h z) (by decide)
def DefM (P:Ql)(w:Qs)(K:Qa)(mg:Str->Option Qb)(base:Heap)(k:Nat)(C:Addr)(m:Str)(ps:List Str)(sp:Sp):Prop:=∃ f fd,FnOk P w K mg base ZJ k f fd ps sp/\Binds K fd ps []/\Vi K C m f
theorem DefM.mono {j k:Nat}(D:DefM P w K mg base j C m ps sp)(h:j<=k):DefM P w K mg base k C m ps sp :=
 let ⟨f,fd,F,b,q⟩:=D;⟨f,fd,F.mono h,b,q⟩
section
variable {X:Cx}{k:Nat}{C:Addr}{m:Str}{ps:List Str}{sp:Sp}{pos apos:Pos}{o e:Expr}{es:List Expr}{ta:TE}{t:TA}
theorem ZT (D:DefM X.prog X.w X.K X.mg X.base k C m ps sp)(c:Cls X.K C)(Y:Room k X.A)(W:PE X o ta)(Z:PA X (e::es) t)(B:QH (e::es) X.env=(false,eval e X.env)::QH es X.env:=by rfl)(z:(Jm pos (QH es X.env)).any (·.1)=false:=by rfl)(ht:eval (.Call (.Attribute o m apos) (e::es) [] pos) X.env=(do
  let J <- eval o X.env
  Ro apos.atName
  let (f,first) <- Ph [J] (SZ J m pl)
  Oi pos f first (Jm pos (QH (e::es) X.env)) (Pm pos (GW [] X.env))):=by rfl):
 PE X (.Call (.Attribute o m apos) (e::es) [] pos) (Zem C m sp [] E0 ta t):=by
 obtain ⟨f,fd,F,b,q⟩:=D
 exact Znh W c q F Y b .nil ZdY Z B z ht
end
def Kq (S:List Addr)(H H':Hp):Prop:=∀ b o,b ∉ S->H b=some o->H' b=some o
theorem Kq.trans (a:Kq S H H1)(b:Kq S H1 H2):Kq S H H2:=fun x o n h=>b x o n (a x o n h)
theorem Kq.sub (a:Kq S H H')(h:∀ b∈S,b∈B):Kq B H H':=fun x o n e=>a x o (fun z=>n (h x z)) e
theorem Same.kq (h:Same H H'):Kq S H H':=fun b o _ e=>h b o e
theorem ZbZ :Kq [a] H (upd H a o):=fun b u n e=>by rw [Zl (fun z=>n (by simp [z]))];exact e
theorem tn:¬ (("nodes":Str)="tables"):=by decide +kernel
def Zba (ln dt:Addr):List (Str×V):=Xz "tables" (.ref dt) (Xz "nodes" (.ref ln) [])
theorem XF (z B:Addr):(Zba z B).lookup ("nodes":Str)=some (.ref z):=by unfold Zba;rw [Xl,if_neg tn,Xl,if_pos rfl]
theorem Zit (B z:Addr):(Zba B z).lookup ("tables":Str)=some (.ref z):=by unfold Zba;rw [Xl,if_pos rfl]
theorem ZM (z B:Addr){m:Str}(h1:¬ m="tables")(h2:¬ m="nodes"):(Zba z B).lookup m=none:=by
 unfold Zba
 rw [Xl,if_neg h1,Xl,if_neg h2]
 rfl
structure StoreAt (K:Qa)(C st ln dt:Addr)(H:Hp)(nds:List Nd)(tabs:List (Zj×V)):Prop where
 ob:∃ dx,H st=some (.ins C dx (Zba ln dt))
 nl:∃ as:List Addr,H ln=some (.lst (as.map V.ref))/\as.length=nds.length/\∀ (i:Nat) (a:Addr) (n:Nd),as[i]?=some a->nds[i]?=some n->NodeAt K H a n
 tb:H dt=some (.dK tabs)
theorem StoreAt.keep (S:StoreAt K C st D B H nds z)(h:Same H H'):StoreAt K C st D B H' nds z:=by
 obtain ⟨⟨dx,e⟩,⟨as,Y,l,W⟩,J⟩:=S
 exact ⟨⟨dx,h _ _ e⟩,⟨as,h _ _ Y,l,fun i a n x y=>(W i a n x y).tf h.tf⟩,h _ _ J⟩
theorem StoreAt.kq (S:StoreAt K C st D B H nds z)(k:Kq L H H')(t:TF H H')(h1:st ∉ L)(h2:D ∉ L)(Z:B ∉ L):StoreAt K C st D B H' nds z:=by
 obtain ⟨⟨dx,e⟩,⟨as,Y,l,W⟩,J⟩:=S
 exact ⟨⟨dx,k _ _ h1 e⟩,⟨as,k _ _ h2 Y,l,fun i a n x y=>(W i a n x y).tf t⟩,k _ _ Z J⟩
theorem Grown.kq (g:Grown Pl H H'):Kq [Pl] H H':=fun b o n e=>g b o (fun z=>n (by simp [z])) e
theorem LamAt.kq (h:LamAt H Pl lpos q)(k:Kq L H H')(B:∀ b∈L,∃ xs,H b=some (.lst xs)):LamAt H' Pl lpos q:=by
 rcases h with h | ⟨c,h,h2⟩
 ·exact .inl (k _ _ (fun z=>by obtain ⟨_,e⟩:=B _ z;rw [h] at e;cases e) h)
 ·exact .inr ⟨c,k _ _ (fun z=>by obtain ⟨_,e⟩:=B _ z;rw [h] at e;cases e) h,k _ _ (fun z=>by obtain ⟨_,e⟩:=B _ z;rw [h2] at e;cases e) h2⟩
theorem ZcD {D:Type}{xs:List D}{r:Int}(J:0<=r)(h1:r < (xs.length:Int)):∃ v,Xd xs r=some v/\v∈xs:=by
 have B:r.toNat < xs.length:=by omega
 have z:Xd xs ((r.toNat:Nat):Int)=some xs[r.toNat]:=Zr (getElem?_eq_getElem B)
 have e:((r.toNat:Nat):Int)=r:=by omega
 rw [e] at z
 exact ⟨_,z,QS B⟩
def IsVal:V->Prop
 | .int i=>i.natAbs < 10 ^ 30
 | .str x=>x.length<=40/\x.cps.toList.all sgn=true
 | _=>False
def Zcw:V->Bool
 | .int i=>decide (i.natAbs < 10 ^ 30)
 | .str x=>decide (x.length<=40)&&x.cps.toList.all sgn
 | _=>false
theorem Vu (h:Zcw v=true):IsVal v:=by
 cases v with
 | int i=>exact of_decide_eq_true (p:=i.natAbs < 10 ^ 30) h
 | str x =>
  have h':(decide (x.length<=40)&&x.cps.toList.all sgn)=true:=h
  simp only [QO,decide_eq_true_eq] at h'
  exact h'
 | _=>cases h
theorem IsVal.b31 {i:Int}(h:IsVal (.int i)):i.natAbs<=10 ^ 31:=Qr (GG (show i.natAbs < 10 ^ 30 from h)) (by decide)
inductive Zdf (vs:List V)(H:Hp)(Q:VK)(w_3:XK):Prop
 | mk (p:Addr) (n:Nat):vs=[.ref p]->BoxAt H p n->n<=900000->(∀ (v:V) (H':Hp),IsVal v->BoxAt H' p (n+50)->Kp p H H'->Q v H')->Zdf vs H Q w_3
def ZlT:List Stmt->Str
 | .Assign _ (.Constant (.str x) _ _) _::_=>x
 | _::r=>ZlT r
 | []=>Str.empty
theorem Vb {K:Qa}(Z:X.K=K)(W:X.calm=true){j:Nat}(ha:PG X (.Name xa D) J)(hb:PG X (.Name xb B) z):PG X (.Tuple [.Name xa D,.Name xb B] j Y) (gTup K 2 (Zhb J (Zhb z gNil))):=by
 subst Z
 exact Ws W (Yb ha (Yb hb XS))
theorem FnOk.ex {P:Ql}{w:Qs}{K:Qa}{mg:Str->Option Qb}{base:Heap}{k:Nat}{f:Addr}{fd:Qm}{ps:List Str}{ok:List Str->Prop}{sp:List Str->Sp}(F:∀ NS,ok NS->FnOk P w K mg base ZJ k f fd ps (sp NS)) :
 FnOk P w K mg base ZJ k f fd ps (fun vs H Q E=>∃ NS,ok NS/\sp NS vs H Q E) :=
 ⟨fun vs H Q E ⟨NS,N,h⟩=>(F NS N).len vs H Q E h,fun A outer s H args us vs Q E B J D z ⟨NS,N,h⟩=>(F NS N).run A outer s H args us vs Q E B J D z h⟩
def ZgP (P:Ql)(w:Qs)(K:Qa)(mg:Str->Option Qb)(base:Heap)(k:Nat)(C:Addr)(x:Str)(ps:List Str)(sp:Sp):Prop:=∃ f fd,FnOk P w K mg base ZJ k f fd ps sp/\Binds K fd ps []/\Mk K C f/\mg x=some (.ref C)
theorem Zhr {k:Nat}(D:ZgP X.prog X.w X.K X.mg X.base k C x ps sp)(B:Room (k+1) X.A)(J:Gl X x:=by rfl)(z:(x == ("__debug__":Str))=false:=by decide):
 PE X (.Call (.Name x p) [] [] pos) (Zmj C sp [] E0 Xr):=by
 obtain ⟨f,fd,F,b,M,m⟩:=D
 exact ZkQ M F B J m b .nil ZdY z
theorem SqL.obj (h:SqL K H a xs):(∀ H',SqL K H' a xs)\/∃ o,H a=some o/\(∀ tb,o≠.tbl tb)/\∀ H',H' a=some o->SqL K H' a xs:=by
 rcases h with (h | ⟨o,h⟩) | h
 ·exact .inr ⟨_,h,(fun tb z=>by cases z),fun H' e=>.inl (.inl e)⟩
 ·exact .inr ⟨_,h,(fun tb z=>by cases z),fun H' e=>.inl (.inr ⟨o,e⟩)⟩
 ·exact .inl fun H'=>.inr h
theorem UH (s:Same H H')(h:H' a=none):H a=none:=by
 cases e:H a with
 | none=>rfl
 | some o=>rw [s _ _ e] at h;cases h
end L2
namespace L2
open PySem PySem.Spec PyProof.Rows
theorem Sep.nest {a:Addr}:∀{Γ:Rs}{H h:Hp},Same h H->Sep Γ h->Sep Δ (WO H h)->Sep (Γ++Δ) H
 | [],_,_,_,_,S=>S.mono WP
 | (b,T)::Γ,H,h,l,⟨g,m,t,G⟩,S=>by
  refine ⟨g,m.trans l,t,Sep.nest (a:=a) (h:=WO h g) (ZeE l) G (S.mono fun c o e=>?_)⟩
  obtain ⟨e1,z⟩:=cut_some.mp e
  refine cut_some.mpr ⟨cut_some.mpr ⟨e1,fun u q=>z u (m _ _ q)⟩,fun u q=>z u (cut_some.mp q).1⟩
theorem Sep.pack' :∀{Γ:Rs}{H:Hp},Sep (Γ++Δ) H->∃ h,Same h H/\Sep Γ h/\Sep Δ (WO H h)
 | [],H,S=>⟨fun _=>none,fun b o e=>(by cases e),trivial,S.mono fun b o e=>cut_some.mpr ⟨e,fun u q=>(by cases q)⟩⟩
 | (b,T)::Γ,H,⟨g,m,t,S⟩=>by
  obtain ⟨h',D,G,S⟩:=Sep.pack' S
  refine ⟨fun c=>match g c with | some o=>some o | none=>h' c,fun c o e=>?_,⟨g,fun c o e=>?_,t,G.mono fun c o e=>?_⟩,S.mono fun c o e=>?_⟩
  ·cases q:g c with
   | some u=>simp only [q] at e;cases e;exact m _ _ q
   | none=>simp only [q] at e;exact (cut_some.mp (D _ _ e)).1
  ·simp only [e]
  ·obtain ⟨e1,B⟩:=cut_some.mp (D _ _ e)
   refine cut_some.mpr ⟨?_,B⟩
   cases q:g c with
   | some u=>simp only [q];rw [m _ _ q] at e1;exact e1
   | none=>simp only [q];exact e
  ·obtain ⟨e1,B⟩:=cut_some.mp e
   obtain ⟨J,W⟩:=cut_some.mp e1
   refine cut_some.mpr ⟨J,fun u q=>?_⟩
   cases z:g c with
   | some v=>simp only [z] at q;cases q;exact W _ z
   | none=>simp only [z] at q;exact B _ q
theorem Sep.pack {a:Addr}{Γ Δ:Rs}(S:Sep (Γ++Δ) H)(f:∀ h,Sep Γ h->R a h):Sep ((a,R)::Δ) H:=by
 obtain ⟨h,l,G,S⟩:=Sep.pack' S
 exact ⟨h,l,f h G,S⟩
section
variable {X:Cx}
inductive Zjo (x y:V)(H:Hp)(Q:VK):Prop
 | mk (dx dy:_):DataOf H x dx->DataOf H y dy->dx.canLay0=true->dy.canLay0=true->dx.depth<=60->Q (.bl (Nm dx dy)) H->Zjo x y H Q
def rEqD :R2:=fun x y H Q=>Zjo x y H Q
inductive Zjs (x y:V)(H:Hp)(Q:VK):Prop
 | mk (dx dy:_):DataOf H x dx->DataOf H y dy->dx.canLay0=true->dy.canLay0=true->dx.depth<=60->Q (.bl (!PyData.eqv dx dy)) H->Zjs x y H Q
def rNeD :R2:=fun x y H Q=>Zjs x y H Q
theorem Zja (hu:X.A.units+64 < Oh):Xm X (Gv .Eq) rEqD:=by
 intro pins s σ H x y v u Q I J D h
 obtain ⟨dx,dy,z,Z,W,B,hd,q⟩:=h
 obtain ⟨_,as,r1⟩:=DataOf.reads I.hok v z J
 obtain ⟨_,bs,Y⟩:=DataOf.reads I.hok u Z D
 exact SeqAt.compareEq_reads r1 Y W B (by omega) ⟨.bl _,H,I,rfl,q⟩
theorem ZoE (hu:X.A.units+64 < Oh):Xm X (Gv .NotEq) rNeD:=by
 intro pins s σ H x y v u Q I J D h
 obtain ⟨dx,dy,z,Z,W,B,hd,q⟩:=h
 obtain ⟨_,as,r1⟩:=DataOf.reads I.hok v z J
 obtain ⟨_,bs,Y⟩:=DataOf.reads I.hok u Z D
 exact SeqAt.compareNe_reads r1 Y W B (by omega) ⟨.bl _,H,I,rfl,q⟩
theorem Zkg {i:Nat}(h:i<=100000):¬ (!Builtin.List.listFitsIndex (i:Int))=true:=by
 have e:TY (i:Int)=true:=by
  unfold TY
  have h1:(-(2 ^ 63:Int))<=(i:Int):=Int.le_trans (by decide) (Int.natCast_nonneg i)
  have h2:(i:Int) < 2 ^ 63:=Int.lt_of_le_of_lt (Int.ofNat_le.mpr h) (by decide)
  rw [decide_eq_true h1,decide_eq_true h2];rfl
 rw [e];decide
theorem ZeR (l:Addr)(z:Array Qb)(n i:Nat)(t:Tok)(y:Qb)(hi:i<=100000)(hsz:z.size<=Qi) :
 ∃ S,Meets (GR.«list.insert» ⟨[.ref l,.int ((i:Nat):Int) t,y],[]⟩) S/\∀ A R s,s.heap.get? l=some { cls:=.type "list",dict:=none,data:=.seq z n,slots:=#[] } ->
  R (.ok (.ret Jc)) { s with heap:=s.heap.update l (QC fun xs=>(xs.extract 0 (min i xs.size)).push y++xs.extract (min i xs.size)),toks:=s.toks }->S A R s:=by
 refine ⟨_,@RD l z n ((i:Nat):Int) t y (Zkg hi) hsz,fun A R s h1 h2=>⟨h1,?_⟩⟩
 have e:(fun xs:Array Qb=>(xs.extract 0 (min i xs.size)).push y++xs.extract (min i xs.size))=(fun xs:Array Qb=>(xs.extract 0 (if ((i:Nat):Int) < 0 then (((i:Nat):Int)+((xs.size:Nat):Int)).toNat else min (((i:Nat):Int)).toNat xs.size)).push y++xs.extract (if ((i:Nat):Int) < 0 then (((i:Nat):Int)+((xs.size:Nat):Int)).toNat else min (((i:Nat):Int)).toNat xs.size)):=by
  funext xs
  rw [if_neg (by omega),Gp]
 rw [e] at h2
 exact h2
inductive ZdI (x:V)(vs:List V)(H:Hp)(Q:VK):Prop
 | mk (l xs i y:_):x=.ref l->vs=[.int (i:Nat),y]->H l=some (.lst xs)->xs.length < 100000->i<=100000->Q .non (upd H l (.lst (xs.take i++y::xs.drop i)))->ZdI x vs H Q
def Zno :V->List V->Hp->VK->Prop:=fun x vs H Q=>ZdI x vs H Q
theorem ZiS:MtM X "list.insert" Zno:=by
 intro pins s σ H x vs v us Q I rx Z h
 obtain ⟨l,xs,i,y,rfl,rfl,Y,hz,hi,q⟩:=h
 cases rx
 obtain ⟨u1,D,rfl,⟨t,rfl⟩,r2⟩:=Zcx Z
 obtain ⟨z,B,n,r,hl,e⟩:=I.lstM Y
 have W:=r.length
 have hsz:B.toArray.size<=sizeLine:=by rw [size_toArray,<- W];exact z
 obtain ⟨S,M,hS⟩:=ZeR l B.toArray n i t D hi hsz
 refine TW (self:=.ref l) (rest:=[.int ((i:Nat):Int) t,D]) (S:=S) F.slot_list_insert ⟨_,e,rfl⟩ F.entry_list_insert (F.args_list_insert_3 _ _ _) ?M (hS _ _ _ e ?R)
 case M=>assumption
 refine ⟨.non,_,I.lset (its':=B.take i++D::B.drop i) Y e ?_ ((r.take i).append (.cons r2 (r.drop i))) ?_,rfl,q⟩
 ·apply Mo.mp
  by_cases J:i<=B.length
  ·have e1:min i B.length=i:=RP J
   simp [e1,take_of_length_le]
  ·have e1:min i B.length=B.length:=Mp (by omega)
   simp [e1,take_of_length_le (show B.length<=i by omega),List.drop_eq_nil_of_le (show B.length<=i by omega)]
 ·rw [length_append,length_take,length_cons,length_drop]
  exact Qr (show _<=100001 by omega) (by decide)
end
section
variable {X:Cx}{k:Nat}{C:Addr}{x m:Str}{ps:List Str}{sp:Sp}{p pos apos:Pos}{o:Expr}{ta:TE}
theorem Ud (D:DefM X.prog X.w X.K X.mg X.base k C m ps sp)(c:Cls X.K C)(J:Room k X.A)(B:PE X o ta)(W:eval (.Call (.Attribute o m apos) [] [] pos) X.env=(do
  let z <- eval o X.env
  Ro apos.atName
  let (f,first) <- Ph [z] (SZ z m pl)
  Oi pos f first (Jm pos (QH [] X.env)) (Pm pos (GW [] X.env))):=by rfl):
 PE X (.Call (.Attribute o m apos) [] [] pos) (Zem C m sp [] E0 ta Xr):=by
 obtain ⟨f,fd,F,b,q⟩:=D
 exact ZkR B c q F J b .nil ZdY W
end
def ZgR (K:Qa)(a:Addr):It :=
 ⟨fun i H=>∃ xs x,SqL K H a xs/\xs[i]?=some x,fun i H v H'=>∃ t x,H t=none/\(∀ xs,SqL K H a xs->xs[i]?=some x)/\v=.ref t/\H'=upd H t (.tup [.int (i:Int),x]),fun i H=>∃ xs,SqL K H a xs/\xs.length<=i⟩
theorem ZhY {P:Ql}{w:Qs}{K:Qa}{elts:List Expr}{x1:Nat}{tp:Pos}(a e J:Addr)(Z:e≠J)(hai:a≠J)(hae:a≠e) :
 VT P w K (.Tuple elts x1 tp) (ZgR K a) [e,J] e (fun i h=>(∃ B,IsEnum h e J (i:Int) B)/\h.IsListIter J a i) where
 mem:=by simp
 obj:=fun i h st b hb=>by
  obtain ⟨⟨B,W⟩,⟨o,ho,c,d⟩⟩:=st
  rcases mem_cons.mp hb with q | hb
  ·rw [q];exact ⟨_,W,fun v z=>by cases z⟩
  ·rw [mem_singleton.mp hb];exact ⟨o,ho,fun v z=>by rw [d] at z;cases z⟩
 keep:=fun i h h' st k=>by
  obtain ⟨⟨B,W⟩,st⟩:=st
  exact ⟨⟨B,k e (by simp) _ W⟩,st.at fun o y=>k J (by simp) o y⟩
 item:=by
  intro X hP hw hK hc i pins s σ H E I hf st hg
  subst hP hw hK
  obtain ⟨⟨B,W⟩,hs⟩:=st
  obtain ⟨xs,x,hq,hx⟩:=hg
  obtain ⟨Y,rv,p,hz⟩:=I.list hq
  obtain ⟨u,hu,ru⟩:=rv.get hx
  have hlt:i < Y.toArray.size:=by
   have:=(Qg.mp hu).1
   simpa using this
  have D:=Draws.list (prog:=X.prog) (w:=X.w) (A:=X.A.in1) (I.ok.hd hc) J a hai Y.toArray
  refine Pd (i:=i) D W ⟨hs,p.isList⟩ hlt Z (by simp [Z,Jv hae]) fun v h' tk hP hOut hst hT hsz hk=>?_
  have ev:v=u:=by
   have:Y[i]?=some v:=by simpa using hP
   rw [hu] at this;exact (Qo this).symm
  subst ev
  have hel:e < s.heap.objs.size:=Qj W
  have hil:J < s.heap.objs.size:=by obtain ⟨o,ho,_⟩:=hs;exact Qj ho
  refine ⟨_,rfl,JK hOut fun h2 he2 hs2=>?_⟩
  generalize hO:({ cls:=.type "tuple",data:=.seq #[.int ((i:Nat):Int) tk,v] }:Obj)=O at hT
  have I1:Inv X pins σ (upd H s.heap.objs.size (.tup [.int (i:Int),x])) { s with heap:=s.heap.push O,toks:=tk+1 }:=by
   refine I.laid (t':=tk+1) (fun b o y=>Qc _ y) (Qe _) (show ObjOk X.prog X.w _ _ _ (.tup _) from ⟨by show 2<=Qi;decide,[.int ((i:Nat):Int) tk,v],.cons ⟨tk,rfl⟩ (.cons ru .nil),?_⟩)
   rw [<- hO];exact SY _ _
  have hfree:=I.hok.fresh (Qe s.heap.objs.size)
  have hf2:∀ b∈[e,J],Wd X pins (upd H s.heap.objs.size (.tup [.int (i:Int),x])) b:=fun b hb=>by
   obtain ⟨f0,f1⟩:=hf b hb
   have hb':b≠s.heap.objs.size:=by
    rcases mem_cons.mp hb with q | hb
    ·rw [q];exact Qn hel
    ·rw [mem_singleton.mp hb];exact Qn hil
   exact ⟨by rw [Zl hb'];exact f0,f1⟩
  have I2:Inv X pins σ (upd H s.heap.objs.size (.tup [.int (i:Int),x])) { s with heap:=h2,toks:=tk+1 }:=by
   refine I1.turned2 (t':=tk+1) (h':=h2) (fun b o hb y=>?_) hf2
   have hbe:b≠e:=fun q=>hb (by simp [q])
   have hbi:b≠J:=fun q=>hb (by simp [q])
   rw [hs2.2 b hbe]
   rcases Tk y with ⟨q1,q2⟩ | y
   ·rw [q1,q2];exact hT
   ·exact hk b o hbe hbi y
  refine ⟨.ref s.heap.objs.size,_,I2,rfl,⟨s.heap.objs.size,x,hfree,fun ys hy=>by rw [I.list_inj hy hq];exact hx,rfl,rfl⟩,⟨⟨_,he2⟩,?_⟩,fun b hb=>(hf2 b hb).1⟩
  exact hst.1.at fun o y=>by rw [hs2.2 J Z.symm];exact y
 done:=by
  intro X hP hw hK hc i pins s σ H E I hf st hg
  subst hP hw hK
  obtain ⟨⟨B,W⟩,hs⟩:=st
  obtain ⟨xs,hq,hle⟩:=hg
  obtain ⟨Y,rv,p,hz⟩:=I.list hq
  have hl:=rv.length
  obtain ⟨f0,f1,f2,f3,f4,f5⟩:=hf J (by simp)
  exact wpAny_pyNext_enum_end (I.ok.hd hc) W hs p.isList (by simp;omega) fun h' eb=>⟨rfl,I.turned (t':=s.toks) (fun b o hb y=>eb b o hb y) f0 f1 f3 f4 f5⟩
 self:=fun _ _ _ _ _ st h=>by
  obtain ⟨⟨B,W⟩,_⟩:=st
  exact GZ W h
def Zoe (K:Qa)(tl:TE):TI:=fun σ H R=>tl σ H fun v H1=>∃ a xs,[v]=[V.ref a]/\H1 a=some (.lst xs)/\R (ZgR K a) H1
section
variable {X:Cx}
theorem ZkS {x1:Nat}(hg:Gl X "enumerate")(hm:X.mg "enumerate"=none)(hl:PE X l tl)(he:QH [l] X.env=[(false,eval l X.env)]:=by rfl):PI X (.Tuple D x1 tp) (.Call (.Name "enumerate" p) [l] [] pos) (Zoe X.K tl):=by
 intro pins s σ H R I h
 have ha:PA X [l] (Xu tl Xr):=YJ hl Za he
 refine Gk (WT I hg hm Op ?_)
 refine GJ (Zw (ha pos pins s σ H (fun vs H1=>∃ a xs,vs=[V.ref a]/\H1 a=some (.lst xs)/\R (ZgR X.K a) H1) I h) fun us s1 zz=>?_) he rfl
 obtain ⟨vs,H1,B,r1,a,xs,e,ea,q⟩:=zz
 subst e
 obtain ⟨u,rfl,r⟩:=Yr r1
 cases r
 obtain ⟨z,its,n,rv,hll,eo⟩:=B.lstM ea
 have J:a < s1.heap.objs.size:=Qj eo
 refine call_enumerate_1 eo fun h' Z Y hsz W=>GZ Z ?_
 refine ⟨s1.heap.objs.size+1,[s1.heap.objs.size+1,s1.heap.objs.size],_,_,H1,rfl,B.kept (t':=s1.toks) W,ZhY a _ _ (Re _) (Qn J) (Qn (Gi J)),⟨⟨_,Z⟩,Y⟩,fun b hb=>?_,q⟩
 rcases mem_cons.mp hb with z | hb
 ·rw [z];exact B.fpOk (Gh _) (B.hok.fresh (Gh _))
 ·rw [mem_singleton.mp hb];exact B.fpOk (Qe _) (B.hok.fresh (Qe _))
end
inductive ZgJ (i j k:Nat)(D:YF)(σ:St)(vs:List V)(H1:Hp):Prop
 | mk (u v w:_):vs=[u,v,w]->D.nx (((σ.set i (some u)).set j (some v)).set k (some w)) H1->ZgJ i j k D σ vs H1
def Zqm (i j k:Nat)(ta:TA):TS:=fun D σ H=>ta σ H fun vs H1=>ZgJ i j k D σ vs H1
theorem Zgu {i j k:Nat}{kt k2 pt2}(hc:X.calm=true)(hN:X.N.Nodup)(hi:X.N[i]?=some x)(hj:X.N[j]?=some y)(hk:X.N[k]?=some z)(hij:i≠j)(hik:i≠k)(Z:j≠k)(hx:X.env.scope.names.lookup x=some .local)(hy:X.env.scope.names.lookup y=some .local)(hz:X.env.scope.names.lookup z=some .local)(ha:PA X [a,b,c] ta)(hw:OI [.Tuple [.Name x px,.Name y Y,.Name z pz] kt pt] (.Tuple [a,b,c] k2 pt2) X.env=pure (some [x,y,z]))(hs:OH [.Tuple [.Name x px,.Name y Y,.Name z pz] kt pt] (.Tuple [a,b,c] k2 pt2) pos.line X.env=pure false:=by rfl):
 PS X (.Assign [.Tuple [.Name x px,.Name y Y,.Name z pz] kt pt] (.Tuple [a,b,c] k2 pt2) pos) (Zqm i j k ta):=by
 intro pins s σ H D I h
 rw [MF]
 refine Qd (JC ?_)
 rw [hs]
 refine Qd (Qh ?_)
 rw [if_neg (by decide)]
 refine Qd (Tuple_ (Zw (ha _ pins s σ H _ I h) fun us s1 zz=>?_))
 obtain ⟨vs,H1,I1,r1,q1⟩:=zz
 obtain ⟨v1,v2,v3,e1,q1⟩:=q1
 subst e1
 obtain ⟨J,B,W,rfl,rv1,rv2,rv3⟩:∃ J B W,us=[J,B,W]/\RelV v1 J/\RelV v2 B/\RelV v3 W:=by
  cases r1 with
  | cons p q =>
   cases q with
   | cons p' q' =>
    cases q' with
    | cons p'' q'' =>
     cases q''
     exact ⟨_,_,_,rfl,p,p',p''⟩
 refine Gg ?_ (by show 3<=Qi;decide)
 have I2:Inv X pins σ H1 { s1 with heap:=s1.heap.push { cls:=.type "tuple",data:=.seq [J,B,W].toArray } }:=I1.kept (t':=s1.toks) fun b o e=>Qc _ e
 rw [hw]
 refine Qd (Qh ?_)
 show Qp (Qt X.prog X.w) X.A (do rule "assign.swapped-stores";let items <- unpackItems (.ref s1.heap.objs.size) 3 none;PZ [fun v=>Pi X.env z v,fun v=>Pi X.env y v,fun v=>Pi X.env x v] items.reverse;pure Me) _ _ _
 refine Qd (PR (Qd (Nx (items:=#[J,B,W]) (I.ok.hd hc) (SY s1.heap _) fun h' hx'=>?_)))
 have I3:=I2.kept (h':=h') (t':=s1.toks) fun b o e=>hx' b o (Qn (Qj e)) e
 show Qp _ _ (PZ [fun v=>Pi X.env z v,fun v=>Pi X.env y v,fun v=>Pi X.env x v] [W,B,J] >>= fun _=>pure Me) _ _ _
 refine Qd (GP (Pj (XJ I3 hN hk (.inl hz) rv3 (fun s2 I4=>?_) (.inr hz))))
 refine GP (Pj (XJ I4 hN hj (.inl hy) rv2 (fun s3 I5=>?_) (.inr hy)))
 refine GP (Pj (XJ I5 hN hi (.inl hx) rv1 (fun s4 I6=>Sn (Qh ?_)) (.inr hx)))
 rw [SG _ _ (Jv Z),SG _ _ (Jv hik),SG _ _ (Jv hij)] at I6
 exact ⟨_,H1,I6,q1⟩
theorem ZdW {K:Qa}(z:X.K=K):Xm X (Gv .NotIn) (rIn K true):=by subst z;exact Zfe
theorem Zlv {K:Qa}(z:X.K=K):SlR X (rSlL K):=by subst z;exact ZcT
theorem ZeL {z D:Type}{f g:z->Option D}:∀{l:List z},(∀ x∈l,f x=g x)->l.filterMap f=l.filterMap g
 | [],_=>rfl
 | x::l,h=>by
  rw [filterMap_cons,filterMap_cons,h x mem_cons_self,ZeL fun y B=>h y (mem_cons_of_mem _ B)]
theorem ZkV (z:List Qb):Mj z.toArray none none (some (-1))=z.reverse.toArray:=by
 have Z:Jt none none (some (-1)) z.toArray.size=((z.length:Int) - 1,-1,-1):=by
  unfold Jt
  simp
 unfold Mj
 rw [Z]
 have W:Nf ((z.length:Int) - 1) (-1) (-1)=(Gn z.length).map fun k=>z.length - 1 - k:=by
  unfold Nf
  have e1:(if (-1:Int) > 0 then (if (z.length:Int) - 1 < -1 then (-1 - ((z.length:Int) - 1)+-1 - 1) / -1 else 0) else (if (z.length:Int) - 1 > -1 then ((z.length:Int) - 1 - -1 - -1 - 1) / (- -1) else 0)).toNat=z.length:=by
   rw [if_neg (by decide)]
   split
   ·rw [show (- -1:Int)=1 by decide,NK];omega
   ·omega
  dsimp only
  rw [e1]
  apply Jl
  intro k D
  have:=mem_range.mp D
  omega
 dsimp only
 rw [W,Ng]
 congr 1
 have J:∀ (l:List Qb),(Gn l.length).filterMap ((fun i=>l[i]?) ∘ fun k=>l.length - 1 - k)=l.reverse:=by
  intro l
  have h1:(Gn l.length).filterMap ((fun i=>l[i]?) ∘ fun k=>l.length - 1 - k)=(Gn l.reverse.length).filterMap (fun k=>l.reverse[k]?):=by
   rw [length_reverse]
   refine ZeL fun k D=>?_
   have B:=mem_range.mp D
   show l[l.length - 1 - k]?=l.reverse[k]?
   rw [List.getElem?_reverse B]
  rw [h1]
  have Y:∀ (m:List Qb) (n:Nat),(Gn n).filterMap (fun k=>m[k]?)=m.take n:=by
   intro m n
   induction n with
   | zero=>simp
   | succ n ih =>
    rw [Tr,RV,ih,take_add_one]
    cases e:m[n]?<;>simp [e]
  rw [Y,take_of_length_le (Qe _)]
 have:=J z
 simpa using this
inductive ZgL (K:Qa)(Q:VK)(x:V)(H1:Hp):Prop
 | mk (a xs:_):x=.ref a->SqL K H1 a xs->(∀ p,H1 p=none->Q (.ref p) (upd H1 p (.lst xs.reverse)))->ZgL K Q x H1
def Zqo (K:Qa)(te:TE):TE:=fun σ H Q=>te σ H fun x H1=>ZgL K Q x H1
section
variable {X:Cx}
theorem Zni {k:Nat}(he:PE X e te):PE X (.Subscript e (.Slice none none (some (.UnaryOp .USub (.Constant (.int 1) k pc) pu)) p2) pos) (Zqo X.K te):=by
 intro pins s σ H Q I h
 refine Rv (Zw (he pins s σ H _ I h) fun v s1 B=>?_)
 obtain ⟨x,H1,I1,r1,a,xs,ex,hx,q1⟩:=B
 subst ex
 cases r1
 refine wpAny_Slice (Zw (Wj pins s1 σ H1 (fun o H2=>o=none/\H2=H1) I1 ⟨rfl,rfl⟩) fun vl s2 B=>?_)
 obtain ⟨l,H2,I2,pl,el,eh⟩:=B
 refine Zw (Wj pins s2 σ H2 (fun o J=>o=none/\J=H2) I2 ⟨rfl,rfl⟩) fun vu s3 B=>?_
 obtain ⟨u,J,I3,pu',eu,Z⟩:=B
 subst el eh eu Z
 refine Zw (WG (X:=X) (Zhs ZfE Zd) pins s3 σ J (fun o W=>o=some (-1)/\W=J) I3 ⟨_,rfl,_,rfl,rfl,rfl⟩) fun D z B=>?_
 obtain ⟨o,W,I4,ps,eo,eh4⟩:=B
 subst eo eh4
 have I5:Inv X pins σ W { z with heap:=z.heap.push { cls:=.type "slice",data:=.fields #[vl,vu,D] } }:=I4.kept (t':=z.toks) fun b ob q=>Qc _ q
 obtain ⟨Y,r,ht,hz⟩:=I5.list hx
 have hlen:=r.length
 show Qp (Qt X.prog X.w) X.A (SJ e (.Slice none none (some (.UnaryOp .USub (.Constant (.int 1) k pc) pu)) p2) (.ref a) (.ref z.heap.objs.size)) (EP X pins σ Q) X.xe { z with heap:=z.heap.push { cls:=.type "slice",data:=.fields #[vl,vu,D] } }
 refine tail_any (ops:=[.ref a,.ref z.heap.objs.size]) ht.isList.typeIs Su.lookup ?_ (by with_unfolding_all rfl)
 refine SK ht.isList (OX ..) pl pu' ps (by decide) ?_ (by rw [size_toArray];omega)
 rw [ZkV]
 refine ⟨.ref _,_,I5.laid (t':=z.toks) (o:=.lst xs.reverse) (fun b ob q=>Qc _ q) (Qe _) ?_,rfl,q1 _ (I5.hok.fresh (Qe _))⟩
 exact ⟨by rw [length_reverse];exact hz,Y.reverse,0,r.reverse,Qk _ rfl⟩
end
end L2
namespace L2
open PySem
theorem Sep.newE (S:Sep Δ H)(hp:H p=none)(e:upd H p o=H2):Sep ((p,Pt o)::Δ) H2:=e ▸ S.new hp o
theorem Sep.putE (S:Sep Δ H)(e:upd H a o'=H2)[P:Pull a Δ (Pt o) z](m:YI o=true:=by rfl):Sep ((a,Pt o')::z) H2:=e ▸ S.put a o' m
theorem UK {lo:Int}{n:Nat}(hn:n<=Qi)(S:Sep Δ H)(hD:H D=none)(J:Nat->List V->Rs->Prop)(h0:J 0 [] Δ)(hs:∀ i ys Δ H,i < n->ys.length=i->J i ys Δ->Sep ((D,Zv ys)::Δ) H->te (σ++[some (.int (lo+i))]) H fun y W=>∃ z,J (i+1) (ys++[y]) z/\Sep ((D,Zv ys)::z) W)(hd:∀ ys Δ H,J n ys Δ->ys.length=n->Sep ((D,Zv ys)::Δ) H->Q (.ref D) H):CompW (Itr lo n) te σ D Q H:=by
 refine ⟨fun i m ys H=>m=n - i/\i<=n/\ys.length=i/\∃ Δ,J i ys Δ/\Sep ((D,Zv ys)::Δ) H,⟨n,by simp,Qw _,rfl,Δ,h0,S.new hD _⟩,?_⟩
 rintro i m ys H2 ⟨rfl,hi,Z,Δ,j,S⟩
 by_cases B:i < n
 ·refine .inr ⟨B,_,fun y W (q:∃ z,J (i+1) (ys++[y]) z/\Sep ((D,Zv ys)::z) W)=>?_,fun v H3 y=>?_⟩
  ·obtain ⟨z,j',Y⟩:=q
   exact ⟨Y.get D,by omega,n - (i+1),by omega,rfl,B,by simp [Z],z,j',Y.put D _⟩
  ·obtain ⟨e1,e2⟩:=y
   subst e1 e2
   exact hs i ys Δ _ B Z j S
 ·have e:i=n:=by omega
  exact .inl ⟨by show n<=i;omega,hd ys Δ H2 (e ▸ j) (by omega) S⟩
theorem ZbJ {K:Qa}(hn:xs.length<=Qi)(S:Sep Δ H)(hD:H D=none)(J:Nat->List V->Rs->Prop)(h0:J 0 [] Δ)(ha:∀ i ys Δ H,J i ys Δ->Sep ((D,Zv ys)::Δ) H->SqL K H a xs)(hs:∀ i x ys Δ H,xs[i]?=some x->ys.length=i->J i ys Δ->Sep ((D,Zv ys)::Δ) H->te (σ++[some x]) H fun y W=>∃ z,J (i+1) (ys++[y]) z/\Sep ((D,Zv ys)::z) W)(hd:∀ ys Δ H,J xs.length ys Δ->ys.length=xs.length->Sep ((D,Zv ys)::Δ) H->Q (.ref D) H):CompW (Itl K a) te σ D Q H:=by
 refine ⟨fun i m ys H=>m=xs.length - i/\i<=xs.length/\ys.length=i/\∃ Δ,J i ys Δ/\Sep ((D,Zv ys)::Δ) H,⟨xs.length,by simp,Qw _,rfl,Δ,h0,S.new hD _⟩,?_⟩
 rintro i m ys H2 ⟨rfl,hi,Z,Δ,j,S⟩
 have q:=ha i ys Δ H2 j S
 by_cases B:i < xs.length
 ·refine .inr ⟨⟨xs,xs[i],q,by simp [B]⟩,_,fun y W (q:∃ z,J (i+1) (ys++[y]) z/\Sep ((D,Zv ys)::z) W)=>?_,fun v H3 y=>?_⟩
  ·obtain ⟨z,j',Y⟩:=q
   exact ⟨Y.get D,by omega,xs.length - (i+1),by omega,rfl,B,by simp [Z],z,j',Y.put D _⟩
  ·obtain ⟨e1,e2⟩:=y
   subst e1
   exact hs i v ys Δ _ (e2 xs q) Z j S
 ·have e:i=xs.length:=by omega
  exact .inl ⟨⟨xs,q,by omega⟩,hd ys Δ H2 (e ▸ j) (by omega) S⟩
theorem ZfM {K:Qa}(hn:xs.length<=Qi)(S:Sep Δ H)(hD:H D=none)(J:Nat->List V->Rs->Prop)(h0:J 0 [] Δ)(ha:∀ i ys Δ H,J i ys Δ->Sep ((D,Zv ys)::Δ) H->SqL K H a xs)(hs:∀ i x ys Δ H,xs[i]?=some x->ys.length<=i->J i ys Δ->Sep ((D,Zv ys)::Δ) H->tc (σ++[some x]) H fun b H3=>if b=true then te (σ++[some x]) H3 fun y W=>∃ z,J (i+1) (ys++[y]) z/\Sep ((D,Zv ys)::z) W else ∃ z,J (i+1) ys z/\Sep ((D,Zv ys)::z) H3)(hd:∀ ys Δ H,J xs.length ys Δ->ys.length<=xs.length->Sep ((D,Zv ys)::Δ) H->Q (.ref D) H):CompV (Itl K a) tc te σ D Q H:=by
 refine ⟨fun i m ys H=>m=xs.length - i/\i<=xs.length/\ys.length<=i/\∃ Δ,J i ys Δ/\Sep ((D,Zv ys)::Δ) H,⟨xs.length,by simp,Qw _,Qe _,Δ,h0,S.new hD _⟩,?_⟩
 rintro i m ys H2 ⟨rfl,hi,hl,Δ,j,S⟩
 have q:=ha i ys Δ H2 j S
 by_cases B:i < xs.length
 ·refine .inr ⟨⟨xs,xs[i],q,by simp [B]⟩,_,_,fun y W (q:∃ z,J (i+1) (ys++[y]) z/\Sep ((D,Zv ys)::z) W)=>?_,fun W (q:∃ z,J (i+1) ys z/\Sep ((D,Zv ys)::z) W)=>?_,fun v H3 y=>?_⟩
  ·obtain ⟨z,Z,Y⟩:=q
   exact ⟨Y.get D,by omega,xs.length - (i+1),by omega,rfl,B,by simp;omega,z,Z,Y.put D _⟩
  ·obtain ⟨z,Z,Y⟩:=q
   exact ⟨xs.length - (i+1),by omega,rfl,B,by omega,z,Z,Y⟩
  ·obtain ⟨e1,e2⟩:=y
   subst e1
   exact hs i v ys Δ _ (e2 xs q) hl j S
 ·have e:i=xs.length:=by omega
  exact .inl ⟨⟨xs,q,by omega⟩,hd ys Δ H2 (e ▸ j) (by omega) S⟩
theorem ZeC {K:Qa}(hn:xs.length<=Qi)(S:Sep Δ H)(hD:H D=none)(J:Nat->List V->Rs->Prop)(h0:J 0 [] Δ)(ha:∀ i ys Δ H,J i ys Δ->Sep ((D,Zv ys)::Δ) H->SqL K H a xs)(hs:∀ i x t ys Δ H wa Z,xs[i]?=some x->ys.length<=i->J i ys Δ->Sep ((t,Tup [.int (i:Int),x])::(D,Zv ys)::Δ) H->g (.ref t) (σ++[wa,Z]) H fun W H'=>(∃ wa Z,W=σ++[wa,Z])/\tc W H' fun b H3=>if b=true then te W H3 fun y Y=>∃ z,J (i+1) (ys++[y]) z/\Sep ((D,Zv ys)::z) Y else ∃ z,J (i+1) ys z/\Sep ((D,Zv ys)::z) H3)(hd:∀ ys Δ H,J xs.length ys Δ->ys.length<=xs.length->Sep ((D,Zv ys)::Δ) H->Q (.ref D) H):CompVT (ZgR K a) g tc te σ D Q H:=by
 refine ⟨fun i m ys H=>m=xs.length - i/\i<=xs.length/\ys.length<=i/\∃ Δ,J i ys Δ/\Sep ((D,Zv ys)::Δ) H,⟨xs.length,by simp,Qw _,Qe _,Δ,h0,S.new hD _⟩,?_⟩
 rintro i m ys H2 ⟨rfl,hi,hl,Δ,j,S⟩
 have q:=ha i ys Δ H2 j S
 by_cases B:i < xs.length
 ·refine .inr ⟨⟨xs,xs[i],q,by simp [B]⟩,_,_,fun y Y (q:∃ z,J (i+1) (ys++[y]) z/\Sep ((D,Zv ys)::z) Y)=>?_,fun Y (q:∃ z,J (i+1) ys z/\Sep ((D,Zv ys)::z) Y)=>?_,fun wa Z v H3 y=>?_⟩
  ·obtain ⟨z,j',S'⟩:=q
   exact ⟨S'.get D,by omega,xs.length - (i+1),by omega,rfl,B,by simp;omega,z,j',S'.put D _⟩
  ·obtain ⟨z,j',S'⟩:=q
   exact ⟨xs.length - (i+1),by omega,rfl,B,by omega,z,j',S'⟩
  ·obtain ⟨t,x,e1,e2,e3,e4⟩:=y
   subst e3 e4
   exact hs i x t ys Δ _ wa Z (e2 xs q) hl j (S.new e1 _)
 ·have e:i=xs.length:=by omega
  exact .inl ⟨⟨xs,q,by omega⟩,hd ys Δ H2 (e ▸ j) (by omega) S⟩
end L2
namespace L2
open PySem PySem.W PySem.Spec PyProof.Rows
section
variable {prog:Ql}{w:Qs}{A:QL}{E:Qb->Qf->Prop}{s:Qf}{a:Addr}{as:List Addr}{ks:List Str}{P:PySem.Fin->Qf->Prop}
end
def YS (ps:List (Str×V)):Prop:=ps.Pairwise fun p q=>¬ (q.1.cps.toList < p.1.cps.toList)
def Zbn (H:Hp)(a:Addr):V:=match H a with
 | some (.tup [_,v])=>v
 | _=>.non
theorem Zhp (h:PairT H ts ps)(o:Zet (ps.map (·.1)) ts J):∃ D,D.Perm ps/\YS D/\PairT H J D:=by
 obtain ⟨zs,hp,e,Y⟩:=o
 have val:∀ (i:Nat) (a:Addr) (p:Str×V),ts[i]?=some a->ps[i]?=some p->Zbn H a=p.2:=fun i a p e1 B=>by unfold Zbn;rw [h.2 i a p e1 B]
 have hz:((ps.map (·.1)).zip ts).map (fun z=>(z.1,Zbn H z.2))=ps:=by
  apply Sy
  intro i
  rw [getElem?_map]
  cases B:ps[i]? with
  | none =>
   have:((ps.map (·.1)).zip ts)[i]?=none:=by
    rw [Se] at B ⊢
    rw [Ts,length_map];omega
   rw [this];rfl
  | some p =>
   have hi:i < ps.length:=(Qg.mp B).1
   obtain ⟨a,ea⟩:∃ a,ts[i]?=some a:=⟨_,getElem?_eq_getElem (by rw [h.1];exact hi)⟩
   have:((ps.map (·.1)).zip ts)[i]?=some (p.1,a):=by
    rw [getElem?_zip_eq_some]
    exact ⟨by rw [getElem?_map,B];rfl,ea⟩
   rw [this]
   show some (p.1,Zbn H a)=some p
   rw [val i a p ea B]
 refine ⟨zs.map fun z=>(z.1,Zbn H z.2),?_,?_,?_⟩
 ·have:=hp.map fun z:Str×Addr=>(z.1,Zbn H z.2)
  rwa [hz] at this
 ·unfold YS;rw [pairwise_map];exact Y
 ·refine ⟨by rw [e,length_map,length_map],fun i a p e1 B=>?_⟩
  rw [e,getElem?_map] at e1
  rw [getElem?_map] at B
  cases ez:zs[i]? with
  | none=>rw [ez] at e1;cases e1
  | some z =>
   rw [ez] at e1 B
   cases (show some z.2=some a from e1)
   cases (show some (z.1,Zbn H z.2)=some p from B)
   have Z:=hp.mem_iff.mp (mem_of_getElem? ez)
   obtain ⟨j,hj⟩:=mem_iff_getElem?.mp Z
   rw [getElem?_zip_eq_some] at hj
   obtain ⟨h1,h2⟩:=hj
   rw [getElem?_map] at h1
   cases e3:ps[j]? with
   | none=>rw [e3] at h1;cases h1
   | some pj =>
    rw [e3] at h1
    have W:pj.1=z.1:=by simpa using h1
    have:=h.2 j z.2 pj h2 e3
    rw [this,val j z.2 pj h2 e3,W]
section
variable {X:Cx}
def kP (p:Str×V):Zj×V:=(QK p.1,p.2)
end
end L2
namespace L2
open PySem
def Yt (x:Str):Prop:=1<=x.length/\x.length<=8/\x.cps.toList.all WD=true
theorem Xc (c:Nat):(⟨#[c]⟩:Str).length=1:=rfl
theorem Zfc :∀{l:List Str},(∀ z∈l,∃ c,z=⟨#[c]⟩/\P c=true)->(l.map (·.length)).sum=l.length/\(l.flatMap (·.cps.toList)).length=l.length/\(l.flatMap (·.cps.toList)).all P=true
 | [],_=>⟨rfl,rfl,rfl⟩
 | z :: r,h=>by
  obtain ⟨c,rfl,B⟩:=h z mem_cons_self
  obtain ⟨W,D,Y⟩:=Zfc (l:=r) fun y J=>h y (mem_cons_of_mem _ J)
  refine ⟨?_,?_,?_⟩
  ·rw [map_cons,SM,W,length_cons];show 1+_=_;omega
  ·have e0:((⟨#[c]⟩:Str)::r).flatMap (·.cps.toList)=c::r.flatMap (·.cps.toList):=rfl
   rw [e0,length_cons,length_cons,D]
  ·rw [Sx,RQ,Y];simp [B]
theorem ZiD (h:∀ z∈zs,∃ c,z=⟨#[c]⟩/\P c=true):(zs.map (·.length)).sum+zs.length * (Qq "").length<=2 * zs.length/\(Txt.join (Qq "") zs).length=zs.length/\(Txt.join (Qq "") zs).cps.toList.all P=true:=by
 obtain ⟨B,D,J⟩:=Zfc h
 refine ⟨?_,?_,?_⟩
 ·rw [B];show _+_ * 0<=_;omega
 ·rw [Yj,Ub,D]
 ·rw [Ub];exact J
theorem Ul {P:Nat->Bool}{x y:Str}(h1:x.cps.toList.all P=true)(h2:y.cps.toList.all P=true):(x++y).cps.toList.all P=true:=by
 rw [Uz,RQ,h1,h2];rfl
theorem Vy {c:Nat}(h:P c=true):(⟨#[c]⟩:Str).cps.toList.all P=true:=by
 show [c].all P=true;simp [h]
theorem VH (h:x.cps.toList.all P=true):(Txt.slice x lo hi).cps.toList.all P=true:=by
 rw [WN]
 rw [all_eq_true] at h ⊢
 exact fun c z=>h c (List.mem_of_mem_drop (Tg z))
theorem ZjB {x:Str}{k:Int}(J:0<=k)(h1:k<=x.length):(Txt.slice x none (some k)).length+(Txt.slice x (some k) none).length=x.length:=by
 have D:¬ k < 0:=by omega
 rw [Yj,Yj,WN,WN,Yj]
 rw [Yj] at h1
 have e1:HT.sIx x.cps.toList.length 0 none=0:=rfl
 have B:HT.sIx x.cps.toList.length x.cps.toList.length none=x.cps.toList.length:=rfl
 have z:∀ d,HT.sIx x.cps.toList.length d (some k)=k.toNat:=fun d=>by
  unfold HT.sIx
  simp only [D,if_false]
  omega
 rw [e1,B,z,z,length_take,length_take,length_drop,length_drop]
 omega
theorem WI {x:Str}{P:Nat->Bool}(B:x.cps.toList.all P=true){r:Int}(D:0<=r)(h1:r < x.length):∃ c,Xd x.cps.toList r=some c/\P c=true:=by
 have z:r.toNat < x.cps.toList.length:=by rw [<- Yj];omega
 exact ⟨_,ZbC D (getElem?_eq_getElem z),all_eq_true.mp B _ (QS z)⟩
def a26:Str:="abcdefghijklmnopqrstuvwxyz"
theorem Xp:a26.length=26:=by decide +kernel
theorem US:a26.cps.toList.all WD=true:=by decide +kernel
theorem ZiP {z:Type}{f:z->V}{xs:List z}{r:Int}(D:0<=r)(h1:r < (xs.length:Int)):∃ x∈xs,Xd (xs.map f) r=some (f x):=by
 have B:r.toNat < xs.length:=by omega
 exact ⟨_,QS B,ZbC D (by rw [getElem?_map,getElem?_eq_getElem B];rfl)⟩
theorem ZcM {xs:List V}{r:Int}(B:0<=r)(h1:r < (xs.length:Int)):∃ x∈xs,Xd xs r=some x:=by
 have z:r.toNat < xs.length:=by omega
 exact ⟨_,QS z,ZbC B (getElem?_eq_getElem z)⟩
theorem Sep.le {n m:Nat}(S:Sep ((p,Bx n)::Δ) H)(h:n<=m):Sep ((p,Bx m)::Δ) H:=by
 obtain ⟨g,l,r,S⟩:=S
 exact ⟨g,l,BoxAt.le r h,S⟩
inductive VJ (vs:List V)(H:Hp)(Q:VK)(w_3:XK):Prop
 | mk (p:Addr) (n:Nat) (Δ:Rs):vs=[.ref p]->Sep ((p,Bx n)::Δ) H->n<=900000->(∀ (v:V) (H':Hp),IsVal v->Sep ((p,Bx (n+50))::Δ) H'->Q v H')->VJ vs H Q w_3
theorem ZnC (h:VJ vs H Q E):Zdf vs H Q E:=by
 obtain ⟨p,n,Δ,e,S,h1,q⟩:=h
 exact ⟨p,n,e,S.get p,h1,fun v H' z B k=>q v H' z (S.box k B)⟩
inductive Zcn (K:Qa)(vs:List V)(H:Hp)(Q:VK)(w_3:XK):Prop
 | mk (a:Addr) (ns:List Int) (k:Int) (Δ:Rs):vs=[.ref a,.int k]->SqL K H a (ns.map V.int)->Sep Δ H->0<=k->k<=1000->(∀ (p:Addr) (H':Hp),Same H H'->Sep ((p,Bx 0)::Δ) H'->Q (.ref p) H')->Zcn K vs H Q w_3
theorem Zpw (h:Zcn K vs H Q E):ZhM K vs H Q E:=by
 obtain ⟨a,ns,k,Δ,e,J,S,h1,h2,q⟩:=h
 refine ⟨a,ns,k,e,J,h1,h2,fun p H' hp B s=>q p H' s ?_⟩
 obtain ⟨x,y,z,D,w⟩:=B
 exact (S.made s hp D).say p (Bx 0) fun h r=>⟨x,y,z,r,w⟩
theorem ZeF {xs:List V}{i:Nat}:VW xs none (some (i:Int))=xs.take i:=by
 unfold VW
 rw [HT.sIx_none,HT.sIx_nat,List.drop_zero,Nat.sub_zero]
 by_cases h:i<=xs.length
 ·rw [RP h]
 ·rw [Mp (by omega),take_of_length_le (Qe _),take_of_length_le (by omega)]
theorem Zmy {x:Str}{ys:List Str}:inV (.str x) (ys.map V.str)=decide (x∈ys):=by
 unfold inV
 induction ys with
 | nil=>rfl
 | cons y ys ih =>
  rw [map_cons,any_cons,ih]
  show ((y == x) || decide (x∈ys))=decide (x∈y::ys)
  by_cases h:y=x
  ·subst h;simp
  ·rw [show (y == x)=false from beq_eq_false_iff_ne.mpr h,Bool.false_or]
   congr 1
   simp [mem_cons,Jv h]
theorem ZjF (ys:List Str):(ys.map V.str).all WZ=true:=by
 rw [all_eq_true]
 intro v z
 obtain ⟨y,_,rfl⟩:=mem_map.mp z
 rfl
theorem Zha:(Gn 26).all (fun k=>decide (Txt.find a26 ⟨#[97+k]⟩=(k:Int)))=true:=by decide +kernel
theorem ZeK {c:Nat}(h:WD c=true):Txt.find a26 ⟨#[c]⟩=(c:Int) - 97/\97<=c/\c<=122:=by
 unfold WD at h
 simp only [QO,decide_eq_true_eq] at h
 have z:=of_decide_eq_true (all_eq_true.mp Zha (c - 97) (mem_range.mpr (by omega)))
 rw [show 97+(c - 97)=c by omega] at z
 exact ⟨by rw [z];omega,h⟩
theorem Zlu {x:Str}(z:x.cps.toList.all P=true){r:Int}(D:-(x.length:Int)<=r)(h1:r < x.length):∃ c,Xd x.cps.toList r=some c/\P c=true:=by
 by_cases h:0<=r
 ·exact WI z h h1
 ·have B:(r+x.cps.toList.length).toNat < x.cps.toList.length:=by rw [<- Yj];omega
  refine ⟨x.cps.toList[(r+x.cps.toList.length).toNat],?_,all_eq_true.mp z _ (QS B)⟩
  unfold Xd WR
  rw [if_neg h,if_pos (by rw [<- Yj];omega)]
  exact getElem?_eq_getElem B
theorem Zln (b:Bool)(z:Str):0<=(if b=true then (1:Int) else 0)/\(if b=true then (1:Int) else 0)<=1/\(QJ (if b=true then (1:Int) else 0).toNat [V.str z]).flatten=(if b=true then [z] else []).map V.str:=by
 cases b
 ·exact ⟨by decide,by decide,rfl⟩
 ·exact ⟨by decide,by decide,rfl⟩
def YO (xs:List Str):Nat->List Str
 | 0=>[]
 | i+1=>match xs[i]? with
  | some x=>if x∈xs.take i then YO xs i else YO xs i++[x]
  | none=>YO xs i
theorem Xt {xs:List Str}:∀ i {x},x∈YO xs i↔x∈xs.take i
 | 0,x=>by simp [YO]
 | i + 1,x=>by
  unfold YO
  rw [take_add_one]
  cases e:xs[i]? with
  | none=>simp [Xt i]
  | some y =>
   dsimp only
   by_cases h:y∈xs.take i
   ·rw [if_pos h,Xt i]
    simp only [TZ,mem_append,mem_singleton]
    exact ⟨.inl,fun z=>z.elim id fun z=>z ▸ h⟩
   ·rw [if_neg h]
    simp only [TZ,mem_append,mem_singleton,Xt i]
theorem UE :∀ i,(YO xs i).Nodup
 | 0=>nodup_nil
 | i + 1=>by
  unfold YO
  cases e:xs[i]? with
  | none=>exact UE i
  | some y =>
   dsimp only
   by_cases h:y∈xs.take i
   ·rw [if_pos h];exact UE i
   ·rw [if_neg h]
    refine nodup_append.mpr ⟨UE i,by simp,fun a z b B=>?_⟩
    rw [mem_singleton.mp B]
    rintro rfl
    exact h ((Xt i).mp z)
theorem ZfP {z:Type}{xs:List z}{n:Nat}{x:z}(h:x∈xs.take n):x∈xs:=Tg h
inductive Zbr (vs:List V)(H:Hp)(Q:VK)(w_3:XK):Prop
 | mk (p:Addr) (n:Nat) (Δ:Rs):vs=[.ref p]->Sep ((p,Bx n)::Δ) H->n<=800000->(∀ (l:Addr) (H':Hp) (us:List V),Sep ((l,Zv us)::(p,Bx (n+200))::Δ) H'->us.length=5->(∀ u∈us,IsVal u)->Q (.ref l) H')->Zbr vs H Q w_3
inductive Stp where
 | set (x:Str) (v:V)
 | clr (x:Str)
def Stp.vs:Stp->List V
 | .set x v=>[.str "set",.str x,v]
 | .clr x=>[.str "clear",.str x]
def Stp.nm:Stp->Str
 | .set x _=>x
 | .clr x=>x
def Stp.ok (NS:List Str):Stp->Prop
 | .set x v=>x∈NS/\IsVal v
 | .clr x=>x∈NS
inductive Zcs (vs:List V)(H:Hp)(Q:VK)(w_3:XK):Prop
 | mk (p nl vl:Addr) (n:Nat) (NS:List Str) (us:List V) (Δ:Rs):vs=[.ref p,.ref nl,.ref vl]->Sep ((p,Bx n)::(nl,Zv (NS.map V.str))::(vl,Zv us)::Δ) H->NS≠[]->us≠[]->NS.length<=1000->us.length<=1000->(∀ u∈us,IsVal u)->n<=900000->(∀ (t:Addr) (H':Hp) (s:Stp),s.ok NS->Sep ((t,Tup s.vs)::(p,Bx (n+3))::(nl,Zv (NS.map V.str))::(vl,Zv us)::Δ) H'->Q (.ref t) H')->Zcs vs H Q w_3
class IsLst (R:YB) (k:Nat):Prop where
 lst:∀ {a h},R a h->∃ xs,h a=some (.lst xs)/\xs.length=k
theorem Sep.isl {k:Nat}(S:Sep Δ H)(a:Addr)(I:IsLst R k)[P:Pull a Δ R B]:∃ xs,H a=some (.lst xs)/\xs.length=k:=by
 obtain ⟨h,l,r,_⟩:=P.out S
 obtain ⟨xs,e,z⟩:=I.lst r
 exact ⟨xs,l _ _ e,z⟩
inductive Zfv (vs:List V)(H:Hp)(Q:VK)(w_3:XK):Prop
 | mk (p sl:Addr) (n k:Nat) (R:YB) (Δ:Rs):vs=[.ref p,.ref sl]->Sep ((p,Bx n)::(sl,R)::Δ) H->IsLst R k->1<=k->k<=10000->n<=900000->(∀ (r:Nat) (H':Hp),r < k->Sep ((p,Bx (n+3))::(sl,R)::Δ) H'->Q (.int (r:Int)) H')->Zfv vs H Q w_3
theorem ZaO (B:Nat):∀(ts:List Str)(k:Nat)(z:Str),(∀ t∈ts,t.length<=B)->(NR k z ts).length<=z.length+ts.length * (B+2)
 | [],_,z,_=>by show z.length<=z.length+0 * (B+2);omega
 | t::r,k,z,h=>by
  have h1:=ZaO B r (k+1) (z++(if k > 0 then ", " else "":String)++t) fun x D=>h x (mem_cons_of_mem _ D)
  have h2:=h t mem_cons_self
  rw [Ys,Ys] at h1
  have J:(Qq (if k > 0 then ", " else "":String)).length<=2:=by split<;>decide
  show (NR (k+1) (z++(if k > 0 then ", " else "":String)++t) r).length<=z.length+(r.length+1) * (B+2)
  rw [Nat.add_mul,Nat.one_mul]
  omega
theorem ZcJ {i:Int}(h:i.natAbs<=10 ^ 31):i.natAbs.log2 < 1920/\(Qq (toString i)).length<=40:=by
 constructor
 ·by_cases z:i.natAbs=0
  ·rw [z];decide
  ·exact (Nat.log2_lt z).mpr (QT h (by decide +kernel))
 ·have e:=int_text_length_le10 (a:=i) (k:=32) (by decide) (QT h (by decide))
  rw [Yj,TH,length_map,String.length_toList]
  omega
theorem Zfo (q c:Nat)(h:c < 128):(QQ q c).length<=4:=by
 by_cases e:(c == q || c == 92)=true
 ·unfold QQ;simp only [e,if_true];show 2<=4;decide
 ·have B:(c == 200 || c == 92)=false:=by
   simp only [MM,not_or,beq_iff_eq] at e
   simp only [Bool.or_eq_false_iff,beq_eq_false_iff_ne]
   exact ⟨by omega,e.2⟩
  have z:QQ q c=QQ 200 c:=by
   unfold QQ
   simp only [Bool.not_eq_true] at e
   simp only [e,B]
  rw [z]
  have all:∀ c:_root_.Fin 128,(QQ 200 c.val).length<=4:=by decide +kernel
  exact all ⟨c,h⟩
theorem Zlo (h:∀ c∈x.cps.toList,c < 128):(reprText x).length<=2+4 * x.length:=by
 rw [<- reprLen_eq,<- Nn,Yj]
 have z:∀ (l:List Nat) (n:Nat),(∀ c∈l,c < 128)->l.foldl (fun n c=>n+(QQ (JP x) c).length) n<=n+4 * l.length:=by
  intro l
  induction l with
  | nil=>intro n _;simp
  | cons c r ih =>
   intro n B
   have h1:=Zfo (JP x) c (B c mem_cons_self)
   have h2:=ih (n+(QQ (JP x) c).length) fun d D=>B d (mem_cons_of_mem _ D)
   rw [RJ,length_cons]
   omega
 exact z _ _ h
def NvV (v:V):Prop:=v=.non\/IsVal v
def Zbt:V->Jh
 | .int i=>.int i
 | .str x=>.str x
 | _=>.none
theorem ZcO (h:NvV v):DataOf H v (Zbt v):=by
 rcases h with rfl | h
 ·exact .non
 ·cases v<;>first | exact .int _ | exact .str _ | exact h.elim
structure Sml (d:Jh)(n k:Nat):Prop where
 sh:d.showable=true
 ln:d.shown.length<=n
 dp:d.depth<=k
theorem Zdh {n:Nat}(h:∀ c∈x.cps.toList,c < 128)(z:2+4 * x.length<=n)(k:Nat):Sml (.str x) n k:=⟨rfl,Qr (Zlo h) z,Qw _⟩
theorem Zag (h:NvV v)(k:Nat):Sml (Zbt v) 200 k:=by
 rcases h with rfl | h
 ·exact ⟨rfl,by show 4<=200;decide,Qw _⟩
 ·cases v with
  | int i =>
   obtain ⟨h1,h2⟩:=ZcJ (IsVal.b31 h)
   exact ⟨decide_eq_true h1,Qr h2 (by decide),Qw _⟩
  | str x =>
   refine Zdh (fun c z=>?_) (by have:x.length<=40:=h.1;omega) k
   have:=all_eq_true.mp h.2 c z
   unfold sgn at this
   simp only [QO,decide_eq_true_eq] at this
   omega
  | _=>exact h.elim
theorem ZeW (h:Yt x)(k:Nat):Sml (.str x) 40 k:=by
 refine Zdh (fun c z=>?_) (by have:=h.2.1;omega) k
 have:=all_eq_true.mp h.2.2 c z
 unfold WD at this
 simp only [QO,decide_eq_true_eq] at this
 omega
theorem XI:∀ ds:List Jh,Jz ds=ds.map GK
 | []=>rfl
 | d::r=>by rw [Jz,XI r];rfl
theorem WH:∀{ds:List Jh},(∀ d∈ds,d.showable=true)->JZ ds=true
 | [],_=>rfl
 | d::r,h=>by rw [JZ,h d mem_cons_self,WH fun e z=>h e (mem_cons_of_mem _ z)];rfl
theorem UL {k:Nat}:∀{ds:List Jh},(∀ d∈ds,d.depth<=k)->Ge ds<=k
 | [],_=>Qw _
 | d::r,h=>by
  have h1:=h d mem_cons_self
  have h2:=UL (k:=k) (ds:=r) fun e z=>h e (mem_cons_of_mem _ z)
  simp [Ge];omega
theorem Vx {n k:Nat}(h:∀ d∈ds,Sml d n k):Sml (.list ds) (2+ds.length * (n+2)) (k+1):=by
 refine ⟨WH fun d B=>(h d B).sh,?_,?_⟩
 ·show (listText (Jz ds)).length<=_
  rw [XI]
  show (NR 0 "[" (ds.map GK)++Qq "]").length<=_
  rw [Ys]
  have z:=ZaO n (ds.map GK) 0 "[" (fun t J=>by
   obtain ⟨d,B,rfl⟩:=mem_map.mp J
   exact (h d B).ln)
  rw [length_map] at z
  have D:(Qq "[").length=1:=by decide
  have W:(Qq "]").length=1:=by decide
  have Y:(NR 0 "[" (ds.map GK)).length<=1+ds.length * (n+2):=by rw [<- D];exact z
  omega
 ·have:=UL (k:=k) fun d B=>(h d B).dp
  show Ge ds+1<=_
  omega
theorem ZkP {n m k:Nat}(h1:Sml a n k)(h2:Sml b m k):Sml (.tuple [a,b]) (4+n+m) (k+1):=by
 refine ⟨?_,?_,?_⟩
 ·show JZ [a,b]=true
  simp [JZ,h1.sh,h2.sh]
 ·show (Mq [a.shown,b.shown]).length<=_
  have e:(Mq [a.shown,b.shown]).length=1+(a.shown.length+2+b.shown.length)+1:=by
   show ((Qq "("++((a.shown++Qq ", ")++b.shown))++Qq ")").length=_
   rw [Ys,Ys,Ys,Ys];rfl
  have:=h1.ln
  have:=h2.ln
  omega
 ·have:=h1.dp
  have:=h2.dp
  show Ge [a,b]+1<=_
  simp [Ge];omega
theorem ZdR :∀{vs:List V},(∀ v∈vs,NvV v)->DatasOf H vs (vs.map Zbt)
 | [],_=>.nil
 | v::r,h=>.cons (ZcO (h v mem_cons_self)) (ZdR fun u z=>h u (mem_cons_of_mem _ z))
def ZlY (p:Str×V):PyData:=.tuple [.str p.1,Zbt p.2]
theorem Zcg :∀{ts:List Addr}{ps:List (Str×V)},PairT H ts ps->(∀ p∈ps,IsVal p.2)->DatasOf H (ts.map V.ref) (ps.map ZlY)
 | [],[],_,_=>.nil
 | [],_::_,h,_=>by cases h.1
 | _::_,[],h,_=>by cases h.1
 | t::ts,p::ps,h,hv=>.cons (.tup (h.2 0 t p rfl rfl) (.cons (.str _) (.cons (ZcO (.inr (hv p mem_cons_self))) .nil))) (Zcg ⟨by simpa using h.1,fun i a q e1 B=>h.2 (i+1) a q e1 B⟩ fun q z=>hv q (mem_cons_of_mem _ z))
theorem ZlC {x y:Str}(h:x.cps.toList=y.cps.toList):x=y:=by
 cases x;cases y
 congr 1
 exact Mo.mp h
theorem ZaN (hp:YS ps)(hq:YS qs)(np:(ps.map (·.1)).Nodup)(J:(qs.map (·.1)).Nodup)(h:∀ z,z∈ps↔z∈qs):ps=qs:=by
 have W:∀ {l:List (Str×V)},(l.map (·.1)).Nodup->l.Nodup:=fun h=>(pairwise_map.mp h).imp fun a b=>a (by rw [b])
 have P:ps.Perm qs:=(List.perm_ext_iff_of_nodup (W np) (W J)).mpr h
 refine P.eq_of_pairwise (le:=fun (p q:Str×V)=>¬ (q.1.cps.toList < p.1.cps.toList)) (fun a b B D h1 h2=>?_) (show ps.Pairwise _ from hp) (show qs.Pairwise _ from hq)
 have e:a.1=b.1:=ZlC (List.le_antisymm (List.not_lt.mp h1) (List.not_lt.mp h2))
 have inj:∀ {l:List (Str×V)},(l.map (·.1)).Nodup->∀ a∈l,∀ b∈l,a.1=b.1->a=b:=by
  intro l Z a B b D e
  obtain ⟨i,hi,ea⟩:=mem_iff_getElem.mp B
  obtain ⟨j,hj,Y⟩:=mem_iff_getElem.mp D
  have:i=j:=Zor (l:=l.map (·.1)) (i:=i) (j:=j) (hi:=by rw [length_map];exact hi) (hj:=by rw [length_map];exact hj) Z (by rw [Mr,Mr,ea,Y,e])
  subst this
  rw [<- ea,<- Y]
 exact inj J a (P.mem_iff.mp B) b D e
def Wa (K:Qa)(C:Addr)(nds:List Nd)(tabs:List (Zj×V)):YB:=fun st h=>nds[0]?=some .bare/\∃ ln dt,StoreAt K C st ln dt h nds tabs
def Zeq (lp:Pos)(q:Str):YB:=fun Pl h=>LamAt h Pl lp q
instance {K:Qa} {C:Addr} {nds:List Nd} {tabs:List (Zj×V)}:Up (Wa K C nds tabs):=⟨fun ⟨h0,ln,dt,h⟩ s=>⟨h0,ln,dt,h.keep s⟩⟩
theorem LamAt.same' (h:LamAt H Pl z q)(s:Same H H'):LamAt H' Pl z q:=by
 rcases h with h | ⟨c,h1,h2⟩
 ·exact .inl (s _ _ h)
 ·exact .inr ⟨c,s _ _ h1,s _ _ h2⟩
def some_of (H:Hp)(L:List Addr):Hp:=fun b=>if b∈L then H b else match H b with
 | some o=>if YI o=true then none else some o
 | none=>none
theorem WJ :Same (some_of H L) H:=fun b o e=>by
 unfold some_of at e
 split at e
 ·exact e
 ·split at e
  ·rename_i o' h'
   split at e
   ·cases e
   ·cases e;exact h'
  ·cases e
theorem Wk (h:b∈L):some_of H L b=H b:=by unfold some_of;rw [if_pos h]
theorem Uh (e:H b=some o)(m:YI o=false):some_of H L b=some o:=by
 unfold some_of
 split
 ·exact e
 ·simp only [e,m,Gx,if_false]
theorem Wf (e:some_of H L b=some o)(m:YI o=true):b∈L:=by
 unfold some_of at e
 split at e
 ·assumption
 ·split at e
  ·split at e
   ·cases e
   ·rename_i h;cases e;exact absurd m h
  ·cases e
theorem ZgB :TF H (some_of H L):=⟨fun b xs e=>Uh e rfl,fun b o u e=>Uh e rfl⟩
theorem Sep.stoLam (S:Sep ((st,Wa K C nds Y)::(Pl,Zeq lp q)::Δ) H):
 ∃ W J,StoreAt K C st W J H nds Y/\nds[0]?=some .bare/\LamAt H Pl lp q/\∀ H' nds' D,StoreAt K C st W J H' nds' D->nds'[0]?=some .bare->LamAt H' Pl lp q->Kq [W,J,Pl] H H'->Sep ((st,Wa K C nds' D)::(Pl,Zeq lp q)::Δ) H':=by
 obtain ⟨h1,l1,⟨b0,W,J,r1⟩,h2,l2,r2,S⟩:=S
 have r2':LamAt h2 Pl lp q:=r2
 refine ⟨W,J,r1.keep l1,b0,(LamAt.same' r2' l2).same' WP,fun H' nds' D S' b0' L' kq=>?_⟩
 obtain ⟨tb,etb⟩:=r2'.tbl
 obtain ⟨tb',B⟩:=L'.tbl
 obtain ⟨dx,ob⟩:=r1.ob
 obtain ⟨as,nl,_⟩:=r1.nl
 obtain ⟨dx',ob'⟩:=S'.ob
 obtain ⟨as',nl',Z,nod'⟩:=S'.nl
 have nPl:Pl ∉ [st,W,J]:=fun z=>by
  simp only [mem_cons,not_mem_nil,or_false] at z
  rcases z with z | z | z
  ·rw [z,ob'] at B;cases B
  ·rw [z,nl'] at B;cases B
  ·rw [z,S'.tb] at B;cases B
 refine ⟨some_of H' [st,W,J],WJ,⟨b0',W,J,⟨⟨dx',by rw [Wk (by simp)];exact ob'⟩,⟨as',by rw [Wk (by simp)];exact nl',Z,fun i a n e1 e2=>(nod' i a n e1 e2).tf ZgB⟩,by rw [Wk (by simp)];exact S'.tb⟩⟩,?_⟩
 have imm:∀ b o,H' b=some o->YI o=false->WO H' (some_of H' [st,W,J]) b=some o:=fun b o e m=>cut_some.mpr ⟨e,fun u z=>by have:=WJ _ _ z;rw [e] at this;cases this;exact m⟩
 refine ⟨some_of (WO H' (some_of H' [st,W,J])) [Pl],WJ,?_,S.mono fun b o e=>?_⟩
 ·have ePl:some_of (WO H' (some_of H' [st,W,J])) [Pl] Pl=H' Pl:=by
   rw [Wk (by simp)]
   have:WO H' (some_of H' [st,W,J]) Pl=some (.tbl tb'):=cut_some.mpr ⟨B,fun u z=>by
    cases m:YI u with
    | false=>rfl
    | true=>exact absurd (Wf z m) nPl⟩
   rw [this,B]
  rcases L' with z | ⟨c,z1,z2⟩
  ·exact .inl (by rw [ePl];exact z)
  ·refine .inr ⟨c,by rw [ePl];exact z1,?_⟩
   exact Uh (imm _ _ z2 rfl) rfl
 ·obtain ⟨e1,e2⟩:=cut_some.mp e
  obtain ⟨e3,e4⟩:=cut_some.mp e1
  have n1:b≠W:=fun z=>by have:=e4 _ (z ▸ nl);cases this
  have n2:b≠J:=fun z=>by have:=e4 _ (z ▸ r1.tb);cases this
  have n3:b≠Pl:=fun z=>by have:=e2 _ (z ▸ etb);cases this
  have n4:b≠st:=fun z=>by have:=e4 _ (z ▸ ob);cases this
  have e5:=kq b o (by simp [n1,n2,n3]) e3
  refine cut_some.mpr ⟨cut_some.mpr ⟨e5,fun u z=>?_⟩,fun u z=>?_⟩
  ·cases m:YI u with
   | false=>rfl
   | true=>have:=Wf z m;simp [n1,n2,n4] at this
  ·cases m:YI u with
   | false=>rfl
   | true=>have:=Wf z m;simp [n3] at this
def Vh (C:Addr)(fs:List (Str×V)):YB:=fun a h=>∃ dx,h a=some (.ins C dx fs)
instance {C:Addr} {fs:List (Str×V)}:Up (Vh C fs):=⟨fun ⟨dx,h⟩ s=>⟨dx,s _ _ h⟩⟩
structure ZE where
 ah:Nat
 st:Stp
 tb:Nat
 co:Nat
def Uk (ss:List Stp):YB:=fun l h=>∃ as:List Addr,h l=some (.lst (V.non::as.map V.ref))/\as.length=ss.length/\∀(i:Nat)(a:Addr)(s:Stp),as[i]?=some a->ss[i]?=some s->h a=some (.tup s.vs)
instance {ss:List Stp}:Up (Uk ss):=⟨fun ⟨as,e,l,h⟩ s=>⟨as,s _ _ e,l,fun i a x e1 e2=>s _ _ (h i a x e1 e2)⟩⟩
abbrev WW (st la ls lt lc:Addr):List (Str×V):=[("kept",.ref st),("aheads",.ref la),("steps",.ref ls),("tables",.ref lt),("costs",.ref lc)]
abbrev Zcz (K:Qa)(CR CS:Addr)(pls:List ZE)(nds:List Nd)(tabs:List (Zj×V))(r st la ls lt lc:Addr):Rs :=
 [(r,Vh CR (WW st la ls lt lc)),(st,Wa K CS nds tabs),(la,Zv (V.non::pls.map fun q=>V.int (q.ah:Int))),(ls,Uk (pls.map (·.st))),(lt,Zv (V.int 0::pls.map fun q=>V.int (q.tb:Int))),(lc,Zv (V.int 0::pls.map fun q=>V.int (q.co:Int)))]
def XB (K:Qa)(CR CS:Addr)(pls:List ZE)(nds:List Nd)(tabs:List (Zj×V)):YB:=fun r h=>∃ st la ls lt lc,Sep (Zcz K CR CS pls nds tabs r st la ls lt lc) h
instance {K:Qa} {CR CS:Addr} {pls:List ZE} {nds:List Nd} {tabs:List (Zj×V)}:Up (XB K CR CS pls nds tabs):=⟨fun ⟨st,la,ls,lt,lc,S⟩ s=>⟨st,la,ls,lt,lc,S.mono s⟩⟩
theorem Sep.roaO {K:Qa}{CR CS r:Addr}{pls:List ZE}{nds:List Nd}{z:List (Zj×V)}{Δ:Rs}{H:Hp}(S:Sep ((r,XB K CR CS pls nds z)::Δ) H):∃ st B D lt J,Sep ((r,Vh CR (WW st B D lt J))::(st,Wa K CS nds z)::(B,Zv (V.non::pls.map fun q=>V.int (q.ah:Int)))::(D,Uk (pls.map (·.st)))::(lt,Zv (V.int 0::pls.map fun q=>V.int (q.tb:Int)))::(J,Zv (V.int 0::pls.map fun q=>V.int (q.co:Int)))::Δ) H:=by
 obtain ⟨h,l,⟨st,B,D,lt,J,G⟩,S⟩:=S
 exact ⟨st,B,D,lt,J,Sep.nest (a:=r) (Γ:=Zcz K CR CS pls nds z r st B D lt J) l G S⟩
theorem Sep.roaC {K:Qa}{CR CS r st B D lt J:Addr}{pls:List ZE}{nds:List Nd}{z:List (Zj×V)}{Δ:Rs}{H:Hp}(S:Sep ((r,Vh CR (WW st B D lt J))::(st,Wa K CS nds z)::(B,Zv (V.non::pls.map fun q=>V.int (q.ah:Int)))::(D,Uk (pls.map (·.st)))::(lt,Zv (V.int 0::pls.map fun q=>V.int (q.tb:Int)))::(J,Zv (V.int 0::pls.map fun q=>V.int (q.co:Int)))::Δ) H):Sep ((r,XB K CR CS pls nds z)::Δ) H :=
 Sep.pack (Γ:=Zcz K CR CS pls nds z r st B D lt J) S fun h G=>⟨st,B,D,lt,J,G⟩
theorem Sep.imm (S:Sep Δ H)(e:H a=some o)(m:YI o=false):Sep ((a,Pt o)::Δ) H:=by
 refine ⟨one a o,fun b u q=>?_,one_some.mpr ⟨rfl,rfl⟩,S.mono fun b u q=>cut_some.mpr ⟨q,fun v z=>?_⟩⟩
 ·obtain ⟨rfl,rfl⟩:=one_some.mp q;exact e
 ·obtain ⟨rfl,rfl⟩:=one_some.mp z;exact m
theorem Sep.updR (S:Sep Δ H)(a:Addr)(o':HO)[P:Pull a Δ R D](m:∀ h,R a h->∃ o,h a=some o/\YI o=true)(f:∀ h,R a h->Same h H->∀ h',h' a=some o'->(∀ b o,b≠a->h b=some o->h' b=some o)->(∀ b o,b≠a->H b=some o->YI o=false->h' b=some o)->T a h'):Sep ((a,T)::D) (upd H a o'):=by
 obtain ⟨h,l,r,S⟩:=P.out S
 obtain ⟨o,ea,Y⟩:=m h r
 refine ⟨fun b=>if b=a then some o' else match h b with | some u=>some u | none=>some_of H [] b,fun b u e=>?_,f h r l _ (if_pos rfl) (fun b u J e=>?_) (fun b u J e Z=>?_),S.mono fun b u e=>?_⟩
 ·dsimp only at e
  by_cases B:b=a
  ·rw [if_pos B] at e;cases e;rw [B];exact Zi
  ·rw [if_neg B] at e
   rw [Zl B]
   cases q:h b with
   | some z=>rw [q] at e;cases e;exact l _ _ q
   | none=>rw [q] at e;exact WJ _ _ e
 ·rw [if_neg J,e]
 ·rw [if_neg J]
  cases q:h b with
  | some z=>have:=l _ _ q;rw [e] at this;cases this;rfl
  | none=>exact Uh e Z
 ·obtain ⟨e1,W⟩:=cut_some.mp e
  have B:b≠a:=fun z=>by have:=W o (by rw [z];exact ea);rw [Y] at this;cases this
  refine cut_some.mpr ⟨by rw [Zl B];exact e1,fun v q=>?_⟩
  simp only [if_neg B] at q
  cases z:h b with
  | some x=>rw [z] at q;cases q;exact W _ z
  | none =>
   rw [z] at q
   cases mm:YI v with
   | false=>rfl
   | true=>have:=Wf q mm;cases this
theorem Sep.stepApp {Δ J:Rs}{H:Hp}{ss:List Stp}{s:Stp}{W:Addr}{as:List Addr}(S:Sep Δ H)(l:Addr)[P:Pull l Δ (Uk ss) J](e:H l=some (.lst (V.non::as.map V.ref)))(es:H W=some (.tup s.vs)):Sep ((l,Uk (ss++[s]))::J) (upd H l (.lst (V.non::as.map V.ref++[V.ref W]))):=by
 refine S.updR l _ (fun h ⟨as,e,_⟩=>⟨_,e,rfl⟩) fun h r l' h' e1 e2 e3=>?_
 obtain ⟨B,e4,hl,hs⟩:=r
 have e5:=l' _ _ e4
 rw [e] at e5
 have e6:as.map V.ref=B.map V.ref:=(JT (HO.lst.inj (Qo e5))).2
 refine ⟨B++[W],?_,by rw [length_append,length_append,hl];rfl,fun i a x D Y=>?_⟩
 ·rw [e1,map_append,e6];rfl
 ·have Z:W≠l:=fun z=>by rw [z,e] at es;cases es
  by_cases hi:i < B.length
  ·rw [getElem?_append_left hi] at D
   rw [getElem?_append_left (by omega)] at Y
   have q3:=hs i a x D Y
   exact e2 _ _ (fun z=>by rw [z,e4] at q3;cases q3) q3
  ·rw [getElem?_append_right (by omega)] at D Y
   have h0:i - B.length=0:=by
    cases z:i - B.length with
    | zero=>rfl
    | succ j=>rw [z] at D;simp at D
   rw [h0] at D
   rw [show i - ss.length=0 by omega] at Y
   cases (show some W=some a from D)
   cases (show some s=some x from Y)
   exact e3 _ _ Z es rfl
def Stp.ap:Stp->(Str->Option V)->(Str->Option V)
 | .set x v,F=>fun y=>if y=x then some v else F y
 | .clr x,F=>fun y=>if y=x then none else F y
def envs (pls:List ZE):List (Str->Option V):=pls.foldl (fun es q=>es++[q.st.ap (es.getD q.ah fun _=>none)]) [fun _=>none]
theorem XE (pls:List ZE)(q:ZE):envs (pls++[q])=envs pls++[q.st.ap ((envs pls).getD q.ah fun _=>none)]:=by
 unfold envs;rw [Px];rfl
theorem ZcU {α:Type}{P:List α->Prop}(h0:P [])(hs:∀ l a,P l->P (l++[a])):∀ l,P l:=by
 have key:∀ n (l:List α),l.length=n->P l:=by
  intro n
  induction n with
  | zero=>intro l h;rw [eq_nil_of_length_eq_zero h];exact h0
  | succ n ih =>
   intro l h
   have hne:l≠[]:=fun z=>by rw [z] at h;cases h
   rw [<- List.dropLast_concat_getLast hne]
   exact hs _ _ (ih _ (by rw [List.length_dropLast];omega))
 exact fun l=>key _ l rfl
theorem Xf (pls:List ZE):(envs pls).length=pls.length+1:=by
 induction pls using ZcU with
 | h0=>rfl
 | hs l q ih=>rw [XE,length_append,ih,length_append];rfl
theorem Sep.im [U:Up R](S:Sep ((a,R)::Δ) H)(f:∀ h,R a h->Same h H->(∀ b o,H b=some o->YI o=false->h b=some o)->T a h):Sep ((a,T)::Δ) H:=by
 obtain ⟨h,l,r,S⟩:=S
 have s1:Same h fun b=>match h b with | some o=>some o | none=>some_of H [] b:=fun b o e=>by simp only [e]
 have le:Same (fun b=>match h b with | some o=>some o | none=>some_of H [] b) H:=fun b o e=>by
  dsimp only at e
  cases q:h b with
  | some z=>rw [q] at e;cases e;exact l _ _ q
  | none=>rw [q] at e;exact WJ _ _ e
 refine ⟨_,le,f _ (U.up r s1) le fun b o e m=>?_,S.mono fun b o e=>?_⟩
 ·cases q:h b with
  | some z=>have:=l _ _ q;rw [e] at this;cases this;rfl
  | none=>exact Uh e m
 ·obtain ⟨e1,B⟩:=cut_some.mp e
  refine cut_some.mpr ⟨e1,fun u q=>?_⟩
  try dsimp only at q
  cases z:h b with
  | some x=>rw [z] at q;cases q;exact B _ z
  | none =>
   rw [z] at q
   cases mm:YI u with
   | false=>rfl
   | true=>have:=Wf q mm;cases this
def PLs (ps:List (Str×V)):YB:=fun l h=>∃ ts:List Addr,h l=some (.lst (ts.map V.ref))/\PairT h ts ps
instance {ps:List (Str×V)}:Up (PLs ps):=⟨fun ⟨ts,e,p⟩ s=>⟨ts,s _ _ e,p.tf s.tf⟩⟩
theorem Sep.pls (S:Sep ((l,Zv (ts.map V.ref))::Δ) H)(h:PairT H ts ps):Sep ((l,PLs ps)::Δ) H :=
 S.im fun g e _ im=>⟨ts,e,h.1,fun i a p e1 z=>im _ _ (h.2 i a p e1 z) rfl⟩
def but (H:Hp)(l:Addr):Hp:=fun b=>if b=l then none else H b
theorem ZnT :Same (but H l) H:=fun b o e=>by
 unfold but at e
 split at e
 ·cases e
 ·exact e
theorem ZbE (h:b≠l):but H l b=H b:=by unfold but;rw [if_neg h]
theorem ZnS :but H l l=none:=by unfold but;rw [if_pos rfl]
end L2
namespace L2
open PySem PySem.Spec PyProof.Rows
section
variable {X:Cx}
end
mutual
inductive DatT (K:Qa)(H:Hp):V->Jh->Prop
 | non:DatT K H .non .none
 | int (i):DatT K H (.int i) (.int i)
 | str (x):DatT K H (.str x) (.str x)
 | tup {a xs ds}:SqT K H a xs->DatTs K H xs ds->DatT K H (.ref a) (.tuple ds)
inductive DatTs (K:Qa)(H:Hp):List V->List Jh->Prop
 | nil:DatTs K H [] []
 | cons {v d vs ds}:DatT K H v d->DatTs K H vs ds->DatTs K H (v::vs) (d::ds)
end
section
variable {X:Cx}{pins:List (Addr×Obj)}{σ:St}{H:Hp}{s:Qf}
mutual
theorem DatT.reads (I:Inv X pins σ H s):∀{v d}(u:Qb),DatT X.K H v d->RelV v u->d.hasDict=false/\∃ as,Reads s.heap u d as
 | _,_,u,.non,r=>by cases (show u=.none from r);exact ⟨rfl,_,.none⟩
 | _,_,u,.int i,r=>by obtain ⟨t,e⟩:=(show ∃ t,u=.int i t from r);subst e;exact ⟨rfl,_,.int i t⟩
 | _,_,u,.str x,r=>by obtain ⟨t,e⟩:=(show ∃ t,u=.str x t from r);subst e;exact ⟨rfl,_,.str x t⟩
 | _,_,u,.tup (a:=a) (xs:=xs) e q,r=>by
  cases (show u=.ref a from r)
  obtain ⟨z,D,⟨o,g,c,n,d⟩,_⟩:=I.tuple e
  obtain ⟨J,as,B⟩:=DatTs.reads I z q D
  exact ⟨by simpa [On] using J,_,.tuple g c d (by simpa using B)⟩
theorem DatTs.reads (I:Inv X pins σ H s):∀{vs ds}(us:List Qb),DatTs X.K H vs ds->Vals vs us->Pw ds=false/\∃ as,ReadsAll s.heap us ds as
 | _,_,_,.nil,.nil=>⟨rfl,_,.nil⟩
 | _,_,_,.cons r t,.cons rv tv=>by
  obtain ⟨D,as,r1⟩:=DatT.reads I _ r rv
  obtain ⟨B,bs,z⟩:=DatTs.reads I _ t tv
  exact ⟨by simp [Pw,D,B],_,.cons r1 z⟩
end
end
theorem Zfj (n:Nat):∀ ts:List Str,(∀ t∈ts,t.length<=n)->piled ts<=ts.length * (n+2)
 | [],_=>by simp [piled]
 | t::r,h=>by
  have h1:=Zfj n r fun x z=>h x (mem_cons_of_mem _ z)
  have h2:=h t mem_cons_self
  rw [length_cons,Nat.add_mul]
  simp only [piled] at h1 ⊢
  simp only [map_cons,SM] at h1 ⊢
  omega
theorem Zap {n k:Nat}(h:∀ d∈ds,Sml d n k):Sml (.tuple ds) (3+ds.length * (n+2)) (k+1):=by
 refine ⟨WH fun d z=>(h d z).sh,?_,?_⟩
 ·show (Mq (Jz ds)).length<=_
  rw [XI]
  have W:(Qq (if (ds.map GK).length == 1 then ",)" else ")":String)).length<=2:=by split<;>decide
  have Y:(Str.join ", " (ds.map GK)).length<=ds.length * (n+2):=by
   cases ds with
   | nil=>show 0<=_;omega
   | cons d r =>
    have e:=join_length_add ((d::r).map GK) (by simp)
    have p:=Zfj n ((d::r).map GK) (fun t D=>by
     obtain ⟨x,B,rfl⟩:=mem_map.mp D
     exact (h x B).ln)
    rw [length_map] at p
    omega
  show (Qq "("++Str.join ", " (ds.map GK)++Qq (if (ds.map GK).length == 1 then ",)" else ")":String)).length<=_
  rw [Ys,Ys]
  have J:(Qq "(").length=1:=by decide
  omega
 ·have:=UL (k:=k) fun d z=>(h d z).dp
  show Ge ds+1<=_
  omega
theorem Sml.le {n m k j:Nat}(h:Sml d n k)(h1:n<=m)(h2:k<=j):Sml d m j:=⟨h.sh,Qr h.ln h1,Qr h.dp h2⟩
theorem Zmz {i:Int}(h:i.natAbs<=10 ^ 31)(k:Nat):Sml (.int i) 40 k:=⟨decide_eq_true (ZcJ h).1,(ZcJ h).2,Qw _⟩
theorem ZmF (h:(x.cps.toList.all fun c=>decide (c < 128))=true)(B:x.length<=20)(k:Nat):Sml (.str x) 100 k:=Zdh (fun c z=>of_decide_eq_true (all_eq_true.mp h c z)) (by omega) k
end L2
namespace L2
open PySem
def YA (x:Str):Prop:=∀ c∈x.cps.toList,c < 1114112
theorem ZlQ (h:YA x):NT x=true:=by
 show x.cps.all (fun c=>decide (c < 1114112))=true
 rw [<- Array.all_toList,all_eq_true]
 exact fun c z=>decide_eq_true (h c z)
theorem Wp (s:String):YA (Qq s):=fun c z=>by
 rw [TH] at z
 obtain ⟨ch,_,rfl⟩:=mem_map.mp z
 have:=ch.valid
 rcases this with h | h
 ·have:ch.toNat < 55296:=h
  omega
 ·have:ch.toNat < 1114112:=h.2
  omega
theorem ZdL {H:Hp}{a:Addr}{xs:List Str}(e:H a=some (.lst (xs.map V.str)))(h:∀ x∈xs,YA x):∃ d,DataOf H (.ref a) d/\d=.list (xs.map PY)/\d.canLay0=true/\d.depth<=60:=by
 have h1:∀ xs:List Str,DatasOf H (xs.map V.str) (xs.map PY):=by
  intro xs
  induction xs with
  | nil=>exact .nil
  | cons x r ih=>exact .cons (.str x) ih
 have h2:∀ xs:List Str,(∀ x∈xs,YA x)->Sz (xs.map PY)=true:=by
  intro xs
  induction xs with
  | nil=>intro _;rfl
  | cons x r ih =>
   intro h
   rw [map_cons,Sz,ih fun y B=>h y (mem_cons_of_mem _ B)]
   show (NT x&&true)=true
   rw [ZlQ (h x mem_cons_self)];rfl
 have z:∀ xs:List Str,Ge (xs.map PY)=0:=by
  intro xs
  induction xs with
  | nil=>rfl
  | cons x r ih=>rw [map_cons,Ge,ih];rfl
 refine ⟨_,.lst e (h1 xs),rfl,?_,?_⟩
 ·rw [PyData.canLay0];exact h2 xs h
 ·rw [NU,z];decide
end L2
namespace L2
open PySem PySem.W PySem.Spec PyProof.Rows
theorem ZdS:∀{xs:List Str}{us:List Qb},Vals (xs.map V.str) us->JO us xs
 | [],_,.nil=>.nil
 | _::_,_,.cons r t=>by
  obtain ⟨tk,e⟩:=r
  subst e
  exact .cons _ tk (ZdS t)
theorem ZdM:∀{xs:List Str}{us:List Qb},JO us xs->Vals (xs.map V.str) us
 | _,_,.nil=>.nil
 | _,_,.cons x t h=>.cons ⟨t,rfl⟩ (ZdM h)
def Zas (xs:List Str):Prop:=xs.Pairwise fun x y=>¬ (y.cps.toList < x.cps.toList)
section
variable {X:Cx}
end
end L2
namespace L2
open PySem
abbrev r1 (u:Addr×Addr):V:=.ref u.1
def Vj (es:List (Nat×List (Str×V)))(us:List (Addr×Addr)):YB:=fun l h=>h l=some (.lst (us.map r1))/\us.length=es.length/\∀(i:Nat)(u:Addr×Addr)(e:Nat×List (Str×V)),us[i]?=some u->es[i]?=some e->h u.1=some (.tup [.int (e.1:Int),.ref u.2])/\h u.2=some (.dK (e.2.map kP))
def We (es:List (Nat×List (Str×V))):YB:=fun l h=>∃ us,Vj es us l h
instance {es:List (Nat×List (Str×V))} {us:List (Addr×Addr)}:Up (Vj es us):=⟨fun ⟨e,l,h⟩ s=>⟨s _ _ e,l,fun i u e e1 e2=>⟨s _ _ (h i u e e1 e2).1,s _ _ (h i u e e1 e2).2⟩⟩⟩
instance {es:List (Nat×List (Str×V))}:Up (We es):=⟨fun ⟨us,e,l,h⟩ s=>⟨us,s _ _ e,l,fun i u e e1 e2=>⟨s _ _ (h i u e e1 e2).1,s _ _ (h i u e e1 e2).2⟩⟩⟩
theorem Sep.pastApp {t:Nat}(S:Sep ((ld,We es)::(u,Tup [.int (t:Int),.ref d])::(d,Dic (ps.map kP))::Δ) H)(e:H ld=some (.lst us)):Sep ((ld,We (es++[(t,ps)]))::Δ) (upd H ld (.lst (us++[V.ref u]))):=by
 have S1:=S.updR ld (.lst (us++[V.ref u])) (T:=fun l h=>∃ vs:List (Addr×Addr),us=vs.map r1/\h l=some (.lst (us++[V.ref u]))/\vs.length=es.length/\∀ (i:Nat) (u:Addr×Addr) (e:Nat×List (Str×V)),vs[i]?=some u->es[i]?=some e->h u.1=some (.tup [.int (e.1:Int),.ref u.2])/\h u.2=some (.dK (e.2.map kP)))
  (fun h ⟨ds,e,_⟩=>⟨_,e,rfl⟩) fun h r l h' e1 e2 e3=>by
   obtain ⟨vs,e4,hl,J⟩:=r
   have e5:=l _ _ e4
   rw [e] at e5
   have e6:us=vs.map r1:=HO.lst.inj (Qo e5)
   refine ⟨vs,e6,e1,hl,fun i d ps B D=>⟨e2 _ _ (fun z=>?_) (J i d ps B D).1,e2 _ _ (fun z=>?_) (J i d ps B D).2⟩⟩
   ·have:=(J i d ps B D).1
    rw [z,e4] at this;cases this
   ·have:=(J i d ps B D).2
    rw [z,e4] at this;cases this
 refine Sep.pack (Γ:=[(ld,_),(u,Tup [.int (t:Int),.ref d]),(d,Dic (ps.map kP))]) S1 fun h G=>?_
 obtain ⟨h1,l1,⟨vs,r0,W,r2,r3⟩,h2,l2,r4,h3,l3,r5,_⟩:=G
 refine ⟨vs++[(u,d)],by rw [map_append,<- r0];exact l1 _ _ W,by rw [length_append,length_append,r2];rfl,fun i Z Y B D=>?_⟩
 by_cases hi:i < vs.length
 ·rw [getElem?_append_left hi] at B
  rw [getElem?_append_left (by omega)] at D
  exact ⟨l1 _ _ (r3 i Z Y B D).1,l1 _ _ (r3 i Z Y B D).2⟩
 ·rw [getElem?_append_right (by omega)] at B D
  have h0:i - vs.length=0:=by
   cases z:i - vs.length with
   | zero=>rfl
   | succ j=>rw [z] at B;simp at B
  rw [h0] at B
  rw [show i - es.length=0 by omega] at D
  cases (show some (u,d)=some Z from B)
  cases (show some (t,ps)=some Y from D)
  exact ⟨WP _ _ (l2 _ _ r4),WP _ _ (WP _ _ (l3 _ _ r5))⟩
theorem Sep.pastX (S:Sep ((ld,We es)::Δ) H):∃ us,Sep ((ld,Vj es us)::Δ) H:=by
 obtain ⟨h,l,⟨us,r⟩,S⟩:=S
 exact ⟨us,h,l,r,S⟩
end L2
namespace L2
open PySem PySem.Spec PyProof.Rows
theorem UI (h:let J:YF:=D;let S:St:=σ;let W:St->Hp->Prop:=z J;B { J with nx:=W } S H):(YD B z) D σ H:=h
theorem zs3 (h:let z:YF:=D;let S:St:=σ;let Z:St->Hp->Prop:=W z;let Y:St->Hp->Prop:=B { z with nx:=Z };J { z with nx:=Y } S H):(YD J (YD B W)) D σ H:=h
theorem zs4 (h:let z:YF:=D;let S:St:=σ;let Z:St->Hp->Prop:=Y z;let N2:St->Hp->Prop:=W { z with nx:=Z };let N1:St->Hp->Prop:=B { z with nx:=N2 };J { z with nx:=N1 } S H):(YD J (YD B (YD W Y))) D σ H:=h
theorem zs5 (h:let z:YF:=D;let S:St:=σ;let N4:St->Hp->Prop:=B z;let N3:St->Hp->Prop:=Z { z with nx:=N4 };let N2:St->Hp->Prop:=Y { z with nx:=N3 };let N1:St->Hp->Prop:=J { z with nx:=N2 };W { z with nx:=N1 } S H):(YD W (YD J (YD Y (YD Z B)))) D σ H:=h
theorem zs6 (h:let z:YF:=D;let S:St:=σ;let N5:St->Hp->Prop:=a6 z;let N4:St->Hp->Prop:=B { z with nx:=N5 };let N3:St->Hp->Prop:=Z { z with nx:=N4 };let N2:St->Hp->Prop:=Y { z with nx:=N3 };let N1:St->Hp->Prop:=J { z with nx:=N2 };W { z with nx:=N1 } S H):(YD W (YD J (YD Y (YD Z (YD B a6))))) D σ H:=h
theorem zs7 (h:let z:YF:=D;let S:St:=σ;let N6:St->Hp->Prop:=J z;let N5:St->Hp->Prop:=a6 { z with nx:=N6 };let N4:St->Hp->Prop:=B { z with nx:=N5 };let N3:St->Hp->Prop:=a4 { z with nx:=N4 };let N2:St->Hp->Prop:=Z { z with nx:=N3 };let N1:St->Hp->Prop:=W { z with nx:=N2 };Y { z with nx:=N1 } S H):(YD Y (YD W (YD Z (YD a4 (YD B (YD a6 J)))))) D σ H:=h
theorem zs8 (h:let z:YF:=D;let S:St:=σ;let N7:St->Hp->Prop:=W z;let N6:St->Hp->Prop:=J { z with nx:=N7 };let N5:St->Hp->Prop:=a6 { z with nx:=N6 };let N4:St->Hp->Prop:=B { z with nx:=N5 };let N3:St->Hp->Prop:=a4 { z with nx:=N4 };let N2:St->Hp->Prop:=a3 { z with nx:=N3 };let N1:St->Hp->Prop:=Y { z with nx:=N2 };Z { z with nx:=N1 } S H):(YD Z (YD Y (YD a3 (YD a4 (YD B (YD a6 (YD J W))))))) D σ H:=h
end L2
namespace K24
open PySem L2
def top (i:Nat):Stmt:=PP.main.body.getD i (.Pass ⟨0,0,0,0⟩)
abbrev s_alike:Stmt:=top 3
abbrev s_mark:Stmt:=top 4
abbrev s_digit:Stmt:=top 5
abbrev s_leaf_of:Stmt:=top 10
abbrev s_fork_of:Stmt:=top 11
abbrev s_parts_in:Stmt:=top 12
abbrev s_pairs_in:Stmt:=top 13
abbrev s_has_mark:Stmt:=top 14
abbrev c_Store___init__:Stmt:=ZQ (top 25) 0
abbrev c_Store_empty:Stmt:=ZQ (top 25) 1
abbrev c_Store_put:Stmt:=ZQ (top 25) 2
abbrev c_Store_without:Stmt:=ZQ (top 25) 3
abbrev c_Store_looked:Stmt:=ZQ (top 25) 4
abbrev c_Store_pairs:Stmt:=ZQ (top 25) 6
abbrev c_Store_way:Stmt:=ZQ (top 25) 7
abbrev c_Store_made:Stmt:=ZQ (top 25) 9
abbrev c_Store_check_table:Stmt:=ZQ (top 25) 10
abbrev c_Store_pairs_below:Stmt:=ZQ (top 25) 11
abbrev c_Store_keep:Stmt:=ZQ (top 25) 12
abbrev c_Store_as_table:Stmt:=ZQ (top 25) 13
abbrev c_Store_put_in:Stmt:=ZQ (top 25) 14
abbrev c_Store_fork_parts:Stmt:=ZQ (top 25) 15
abbrev c_Store_taken_from:Stmt:=ZQ (top 25) 16
abbrev c_Roads___init__:Stmt:=ZQ (top 27) 0
abbrev c_Roads_put:Stmt:=ZQ (top 27) 1
abbrev c_Roads_clear:Stmt:=ZQ (top 27) 2
abbrev c_Roads_places:Stmt:=ZQ (top 27) 3
abbrev c_Roads_ahead:Stmt:=ZQ (top 27) 4
abbrev c_Roads_step:Stmt:=ZQ (top 27) 5
abbrev c_Roads_road:Stmt:=ZQ (top 27) 7
abbrev c_Roads_store:Stmt:=ZQ (top 27) 10
abbrev c_Roads_table:Stmt:=ZQ (top 27) 11
abbrev c_Roads_looked:Stmt:=ZQ (top 27) 12
abbrev c_Roads_all_at:Stmt:=ZQ (top 27) 13
abbrev c_Roads_cost:Stmt:=ZQ (top 27) 14
abbrev c_Roads_check_place:Stmt:=ZQ (top 27) 18
abbrev c_Roads_go_on:Stmt:=ZQ (top 27) 20
abbrev s_l_cell_at:Stmt:=top 29
abbrev s_l_box:Stmt:=top 30
abbrev s_l_take:Stmt:=top 31
abbrev s_l_names:Stmt:=top 32
abbrev s_l_value:Stmt:=top 33
abbrev s_l_pool:Stmt:=top 34
abbrev s_l_values:Stmt:=top 35
abbrev s_l_step:Stmt:=top 36
abbrev s_l_from:Stmt:=top 37
abbrev s_l_grown:Stmt:=top 38
abbrev s_l_road:Stmt:=top 39
abbrev s_l_all:Stmt:=top 40
abbrev s_l_alike:Stmt:=top 41
abbrev s_l_mark:Stmt:=top 42
abbrev s_l_way:Stmt:=top 43
abbrev s_l_stand:Stmt:=top 44
abbrev s_l_besides:Stmt:=top 45
abbrev s_l_same:Stmt:=top 46
abbrev s_l_last_right:Stmt:=top 47
abbrev s_l_right:Stmt:=top 48
abbrev s_law:Stmt:=top 49
section
variable {P:Ql}{w:Qs}{K:Qa}{mg:Str->Option Qb}{base:Heap}
theorem scC:Zp ["_law_script","_law_k"] ["_law_script","_law_k"] (Zk s_l_cell_at):={}
theorem ZmJ (F:Fun K "_law_cell_at" "_law_cell_at" s_l_cell_at f fd)(T:Yl mg):FnOk P w K mg base ZJ 1 f fd ["_law_script","_law_k"] (Zft K):=by
 refine F.ok scC (fun W A outer s H vs Q E hr h=>?_)
 obtain ⟨a,ns,k,rfl,D,h0,q⟩:=h
 refine ⟨_,Ze (Yi (ZP ZaC (pv 1) (Zz ZL rfl T.len QM (YJ (pv 0) Za)) (ZH _)) (Zg (Zn (Zo ZD (pv 0) (pv 1) (fun _ _=>rfl)))) ZV)
  (Zg (Zn Zd)),?_⟩
 refine ⟨_,rfl,_,rfl,a,_,rfl,.inl D,_,_,rfl,rfl,_,rfl,?_⟩
 refine Xy (fun c=>?_) (fun c=>?_)
 ·have Z:k < (((ns.map V.int).length:Nat):Int):=of_decide_eq_true c
  rw [length_map] at Z
  have Y:k.toNat < ns.length:=by omega
  have J:k=((k.toNat:Nat):Int):=by omega
  have B:Xd (ns.map V.int) k=some (.int ns[k.toNat]):=by
   have z:Xd (ns.map V.int) ((k.toNat:Nat):Int)=some (.int ns[k.toNat]):=Zr (by rw [getElem?_map,getElem?_eq_getElem Y];rfl)
   rwa [<- J] at z
  exact ⟨_,rfl,_,rfl,a,_,_,_,rfl,rfl,D,B,q _⟩
 ·exact q 0
theorem scB:Zp ["_law_script","_law_k","_law_cell"] ["_law_script","_law_k"] (Zk s_l_box):={}
theorem Zov (F:Fun K "_law_box" "_law_box" s_l_box f fd)(T:Yl mg)(D:Def P w K mg base 1 "_law_cell_at" ["_law_script","_law_k"] (Zft K)):FnOk P w K mg base ZJ 2 f fd ["_law_script","_law_k"] (ZhM K):=by
 refine F.ok scB (fun B A outer s H vs Q E J h=>?_)
 obtain ⟨a,ns,k,rfl,Y,W,h1,q⟩:=h
 refine ⟨_,Ze (Zx (i:=2) scB.nd rfl (Qy rfl) (ZA D J (YJ (pv 0) (YJ (pv 1) Za))))
  (Zg (Zn (Yh (YJ (Zt Wr (Zz Zew rfl T.abs (by decide +kernel) (YJ (pv 2) Za)) (Yk VU rfl T.int (by decide +kernel) (YJ (YK ZlX (Zz Zew rfl T.abs (by decide +kernel) (YJ (pv 2) Za)) (Zt Zcf Zd Zd) (ZH _)) Za)))
   (YJ (Zt Yu (Zt Yu (Zt Xq (pv 2) Zd) (Zt Wr Zd (pv 1))) Zd) (YJ Zd Za)))))),?_⟩
 refine ⟨_,rfl,_,rfl,a,ns,k,rfl,Y,W,fun r=>?_⟩
 refine ⟨_,rfl,_,rfl,⟨_,rfl,_,rfl,_,_,rfl,rfl,⟨by decide,by decide,by decide⟩,_,_,rfl,rfl,.inr ⟨_,rfl,?_⟩⟩⟩
 generalize Z:decide ((10:Int) ^ (Int.toNat 18)<=(if r < 0 then -r else r))=z
 refine ⟨_,_,rfl,rfl,.inr (by cases z<;>exact ⟨by decide,by decide⟩),_,rfl,_,_,rfl,rfl,(by show (0:Int) < _;decide),_,rfl,_,_,rfl,rfl,.inl ⟨by decide,by decide⟩,_,_,rfl,rfl,_,_,rfl,rfl,(by show 3<=Qi;decide),fun p hp=>?_⟩
 refine q p _ hp ⟨_,_,0,Zi,?_,by decide,by decide⟩ (ZC hp _)
 cases z
 ·simp
 ·simp only [if_true,Int.mul_one];split<;>omega
theorem scT:Zp ["_law_box_here","_law_many","_law_found","_law_once","_law_twice"] ["_law_box_here","_law_many"] (Zk s_l_take):={}
theorem Zna (F:Fun K "_law_take" "_law_take" s_l_take f fd):FnOk P w K mg base ZJ 1 f fd ["_law_box_here","_law_many"] (Zan 4611686018427387904):=by
 refine F.ok scT (fun Z A outer s H vs Q E hr h=>?_)
 obtain ⟨p,n,m,rfl,⟨a,b,c,hp,Y,hc,hcn⟩,hn,B,J,q⟩:=h
 refine ⟨_,Ze (Yi (ZP Zho (Zo ZD (pv 0) Zd (fun _ _=>rfl)) Zd (ZH _))
     (Ze (Zx (i:=2) scT.nd rfl (Qy rfl) (Zt Xq (Zo ZD (pv 0) Zd (fun _ _=>rfl)) (pv 1)))
       (Ze (XH (Zt Zbi (Zo ZD (pv 0) Zd (fun _ _=>rfl)) (pv 1)) (Zci (pv 0) Zd VF)) (Zg (Zn (pv 2))))) ZV)
   (Ze (XH (Zt Yu (Zo ZD (pv 0) Zd (fun _ _=>rfl)) Zd) (Zci (pv 0) Zd VF))
   (Ze (Zx (i:=3) scT.nd rfl (Qy rfl) (Zt Xq (Zt Wr (Zt Yu (Zo ZD (pv 0) Zd (fun _ _=>rfl)) (Zt Wr Zd (Zo ZD (pv 0) Zd (fun _ _=>rfl)))) (Zt Yu Zd (Zo ZD (pv 0) Zd (fun _ _=>rfl)))) Zd))
   (Ze (Zx (i:=4) scT.nd rfl (Qy rfl) (Zt Xq (Zt Wr (Zt Yu (pv 3) (Zo ZD (pv 0) Zd (fun _ _=>rfl))) (Zt Yu (Zt Xq (pv 3) Zd) Zd)) Zd))
   (Zg (Zn (Zt Xq (Zt Zgr (Zt Xq (Zt Yu (Zt Wr (pv 4) Zd) (pv 3)) Zd) Zd) (pv 1))))))),?_⟩
 refine ⟨_,rfl,p,_,_,_,rfl,rfl,SqL.of hp,rfl,_,_,rfl,rfl,_,rfl,?_⟩
 refine Xy (fun W=>?_) (fun W=>?_)
 · have h0:0 < a:=of_decide_eq_true W
   refine ⟨_,rfl,p,_,_,_,rfl,rfl,SqL.of hp,rfl,_,rfl,_,_,rfl,rfl,B,?_⟩
   refine ⟨_,rfl,p,_,_,_,rfl,rfl,SqL.of hp,rfl,_,rfl,_,_,rfl,rfl,⟨B,by have h4:m < 4611686018427387904:=J;omega⟩,?_⟩
   refine ⟨_,rfl,p,_,_,_,rfl,rfl,hp,rfl,?_⟩
   refine ⟨_,rfl,?_⟩
   exact q _ _ (GF _ (by omega)) (Gy _ B) ⟨a / m,b,c,Zi,Int.ediv_nonneg Y (by omega),hc,by omega⟩ (Kp.upd _ _ _)
 · refine ⟨_,rfl,p,_,_,_,rfl,rfl,SqL.of hp,rfl,_,_,rfl,rfl,?_⟩
   refine ⟨_,rfl,p,_,_,_,rfl,rfl,hp,rfl,?_⟩
   have D:upd H p (.lst [.int a,.int b,.int (c+1)]) p=some (.lst [.int a,.int b,.int (c+1)]):=Zi
   refine ⟨_,rfl,p,_,_,_,rfl,rfl,SqL.of D,rfl,_,rfl,p,_,_,_,rfl,rfl,SqL.of D,rfl,_,_,rfl,rfl,.inl ⟨by decide,by decide⟩,_,_,rfl,rfl,_,rfl,p,_,_,_,rfl,rfl,SqL.of D,rfl,_,_,rfl,rfl,_,_,rfl,rfl,.inr ⟨by omega,by omega⟩,_,_,rfl,rfl,(by show (0:Int) < _;decide),?_⟩
   generalize hO:((b+48271 * (c+1)) * (39373+(c+1))) % 2147483647=z
   have hO0:0<=z:=by rw [<- hO];exact GF _ (by decide)
   refine ⟨_,rfl,_,rfl,p,_,_,_,rfl,rfl,SqL.of D,rfl,_,_,rfl,rfl,_,rfl,_,_,rfl,rfl,(by show (0:Int) < _;decide),_,_,rfl,rfl,_,_,rfl,rfl,.inr ?_,_,_,rfl,rfl,(by show (0:Int) < _;decide),?_⟩
   · have:=GF z (show (40009:Int)≠0 by decide)
     have:=Gy z (show (0:Int) < 40009 by decide)
     exact ⟨by omega,by omega⟩
   generalize hW:((z+(c+1)) * (z % 40009+7)) % 2147483629=twice
   refine ⟨_,rfl,_,_,rfl,rfl,.inr ⟨by decide,by decide⟩,_,rfl,_,_,rfl,rfl,_,_,rfl,rfl,(by show (0:Int) < _;decide),_,_,rfl,rfl,⟨by decide,by decide⟩,_,rfl,_,_,rfl,rfl,B,?_⟩
   exact q _ _ (GF _ (by omega)) (Gy _ B) ⟨a,b,c+1,D,Y,by omega,by omega⟩ (Kp.upd _ _ _)
end
structure Txt (K:Qa)(mg:Str->Option Qb):Prop extends Yl mg where
 base:∃ t,mg "BASE"=some (.int 4 t)
 zero:∃ t,mg "BARE_NUMBER"=some (.int 0 t)
 bare:∃ a,mg "BARE"=some (.ref a)/\∀ H,SqT K H a [.str "bare"]
 figs:∃ a,mg "FIGURES"=some (.ref a)/\∀ H,SqT K H a [.int 0,.int 1,.int 2,.int 3]
section
variable {P:Ql}{w:Qs}{K:Qa}{mg:Str->Option Qb}{base:Heap}
def XY (l:List Nat):Nat->Int
 | 0=>0
 | i+1=>XY l i+((i:Int)+1) * (((l.getD i 0:Nat):Int) - 97+1)
inductive Ww (vs:List V)(H:Hp)(Q:VK)(w_3:XK):Prop
 | mk (x:Str):vs=[.str x]->x.length<=1000->(∀ H',Same H H'->Q (.int (XY x.cps.toList x.length)) H')->Ww vs H Q w_3
inductive Wl (vs:List V)(H:Hp)(Q:VK)(w_3:XK):Prop
 | mk (n:Int) (k:Nat):vs=[.int n,.int k]->0<=n->k<=1000->Q (.int (n / 4 ^ k % 4)) H->Wl vs H Q w_3
theorem oa:(Qq "a").cps.getD 0 0=97:=by decide +kernel
theorem scM:Zp ["name","total","place","letter"] ["name"] (Zk s_mark):={}
theorem ZmU (F:Fun K "mark" "mark" s_mark f fd)(T:Txt K mg):FnOk P w K mg base ZJ 1 f fd ["name"] Ww:=by
 refine F.ok scM (fun W A outer s H vs Q E hr h=>?_)
 obtain ⟨x,rfl,Y,q⟩:=h
 refine' ⟨?t,?h,?r⟩
 case h =>
  conv=>arg 2;whnf
  with_reducible refine' Ze ?a1 (Ze ?a2 (Zg ?a3))
  case a1=>exact Zx (i:=1) scM.nd rfl (Qy rfl) Zd
  case a2=>exact Wt Ga rfl (ZkT rfl T.enumerate (pv 0)) (Ws rfl (Yb (ZI (i:=2) scM.nd rfl (Qy rfl)) (Yb (ZI (i:=3) scM.nd rfl (Qy rfl)) XS))) (Zg (ZoN (i:=1) scM.nd rfl (Qy rfl) (Zt Wr (pv 2) (Zt Yu (Zt YW (Zz Zex rfl T.ord (by decide +kernel) (Zb (pv 3) Za)) (Zz Zex rfl T.ord (by decide +kernel) (Zb ZU Za))) Zd)) Zoh))
  case a3=>exact Zn (pv 1)
 try dsimp only [ZR,Cx.nox]
 refine zs3 ?_
 intro zD zS zN2 Z
 refine ⟨_,rfl,x,rfl,?_⟩
 refine Zkh (fun i σ H'=>∃ z D,σ=[some (.str x),some (.int (XY x.cps.toList i)),z,D]/\Same H H'/\i<=x.cps.size) ⟨_,_,rfl,Same.refl H,Qw _⟩ ?_ ?_
 ·rintro i c t σ H1 J ht ⟨z,D,rfl,s1,hi⟩
  have B:i < x.cps.size:=(JL.mp J).1
  have hz:x.cps.size<=1000:=Y
  refine ⟨t,_,rfl,SqT.of Zi,rfl,_,_,rfl,_,_,rfl,rfl,?_⟩
  refine ⟨_,rfl,_,rfl,_,rfl,_,rfl,rfl,_,rfl,rfl,_,_,rfl,rfl,_,_,rfl,rfl,_,_,rfl,rfl,.inl ⟨by omega,by omega⟩,_,_,rfl,rfl,?_⟩
  have e:XY x.cps.toList (i+1)=XY x.cps.toList i+((i:Int)+1) * ((((⟨#[c]⟩:Str).cps.getD 0 0:Nat):Int) - (((Qq "a").cps.getD 0 0:Nat):Int)+1):=by
   rw [oa]
   show XY x.cps.toList i+((i:Int)+1) * (((x.cps.toList.getD i 0:Nat):Int) - 97+1)=XY x.cps.toList i+((i:Int)+1) * ((c:Int) - 97+1)
   have e1:x.cps.toList.getD i 0=c:=by rw [getD_eq_getElem?_getD,QP,J];rfl
   rw [e1]
  exact ⟨some (.int ((i:Int)+1)),some (.str ⟨#[c]⟩),by rw [e];rfl,s1.trans (ZC ht _),B⟩
 ·rintro σ H1 ⟨z,D,rfl,s1,_⟩
  exact ⟨_,rfl,q H1 s1⟩
theorem scDg:Zp ["number","level","below"] ["number","level"] (Zk s_digit):={}
theorem ZkB (F:Fun K "digit" "digit" s_digit f fd)(T:Txt K mg):FnOk P w K mg base ZJ 1 f fd ["number","level"] Wl:=by
 refine F.ok scDg (fun D A outer s H vs Q E Y h=>?_)
 obtain ⟨n,k,rfl,hn,W,q⟩:=h
 obtain ⟨tb,z⟩:=T.base
 refine' ⟨?t,?h,?r⟩
 case h =>
  conv=>arg 2;whnf
  with_reducible refine' Ze ?a1 (Zg ?a2)
  case a1=>exact Wt Ga rfl (Xj rfl T.range (Zb (pv 1) Za)) (ZI (i:=2) scDg.nd rfl (Qy rfl)) (Zg (Zx (i:=0) scDg.nd rfl (Qy rfl) (Zt Zgr (pv 0) (Xv rfl z (v:=.int 4) ⟨_,rfl⟩))))
  case a2=>exact Zn (Zt Xq (pv 0) (Xv rfl z (v:=.int 4) ⟨_,rfl⟩))
 try dsimp only [ZR,Cx.nox]
 refine UI ?_
 intro Z zS J
 refine ⟨_,rfl,k,rfl,by omega,by omega,?_⟩
 have B:(k:Int).toNat=k:=by omega
 rw [B]
 refine WQ (fun i σ H'=>∃ y,σ=[some (.int (n / 4 ^ i)),some (.int k),y]/\H'=H) ⟨_,by rw [Int.pow_zero,NK];rfl,rfl⟩ ?_ ?_
 ·rintro i σ H1 hi ⟨y,rfl,rfl⟩
  have e:n / 4 ^ (i+1)=n / 4 ^ i / 4:=by rw [Int.pow_succ,<- Int.ediv_ediv_of_nonneg (Int.pow_nonneg (by decide))]
  exact ⟨_,rfl,_,_,rfl,rfl,⟨by decide,by decide⟩,some (.int (0+(i:Int))),by rw [e];rfl,rfl⟩
 ·rintro σ H1 ⟨y,rfl,rfl⟩
  exact ⟨_,rfl,_,_,rfl,rfl,(by show (0:Int) < 4;decide),q⟩
theorem nbf:decide (V.str (Qq "bare")=V.str (Qq "fork"))=false:=by decide +kernel
theorem nlf:decide (V.str (Qq "leaf")=V.str (Qq "fork"))=false:=by decide +kernel
theorem nbl:decide (V.str (Qq "bare")=V.str (Qq "leaf"))=false:=by decide +kernel
theorem nfl:decide (V.str (Qq "fork")=V.str (Qq "leaf"))=false:=by decide +kernel
theorem scPi:Zp ["node"] ["node"] (Zk s_parts_in):={}
theorem ZkI (F:Fun K "parts_in" "parts_in" s_parts_in f fd):FnOk P w K mg base ZJ 1 f fd ["node"] (Wm K):=by
 refine F.ok scPi (fun B A outer s H vs Q E W h=>?_)
 obtain ⟨a,n,rfl,z,q⟩:=h
 refine ⟨_,Zg (Zn (Uu (ZP Yo (Zo ZO (pv 0) Zd (fun _ _=>rfl)) ZU (ZH _)) (Zo ZO (pv 0) Zd (fun _ _=>rfl)) Zgs)),?_⟩
 cases n with
 | bare =>
  refine ⟨_,rfl,a,_,_,_,rfl,rfl,z,rfl,rfl,_,rfl,?_⟩
  rw [nbf]
  exact ZN fun p o hp D=>q p _ (ZC hp _) (.inl (.inr ⟨o,Zi⟩))
 | leaf m ps =>
  obtain ⟨t,e,_⟩:=z
  refine ⟨_,rfl,a,_,_,_,rfl,rfl,e,rfl,rfl,_,rfl,?_⟩
  rw [nlf]
  exact ZN fun p o hp D=>q p _ (ZC hp _) (.inl (.inr ⟨o,Zi⟩))
 | fork qs =>
  obtain ⟨t,e,J,_⟩:=z
  refine ⟨_,rfl,a,_,_,_,rfl,rfl,e,rfl,rfl,_,rfl,?_⟩
  rw [decide_eq_true rfl]
  exact Yg ⟨_,rfl,a,_,_,_,rfl,rfl,e,rfl,q t H (Same.refl H) J⟩
theorem scPr:Zp ["node"] ["node"] (Zk s_pairs_in):={}
theorem ZkH (F:Fun K "pairs_in" "pairs_in" s_pairs_in f fd):FnOk P w K mg base ZJ 1 f fd ["node"] (Xx K):=by
 refine F.ok scPr (fun D A outer s H vs Q E W h=>?_)
 obtain ⟨a,n,rfl,B,q⟩:=h
 refine ⟨_,Zg (Zn (Uu (ZP Yo (Zo ZO (pv 0) Zd (fun _ _=>rfl)) ZU (ZH _)) (Zo ZO (pv 0) Zd (fun _ _=>rfl)) Zgs)),?_⟩
 have nil:∀ p o,H p=none->o.dict=none->PairsAt (upd H p (.frz o (.tup []))) p []:=fun p o hp z=>⟨o,[],Zi,z,rfl,fun i a p e=>by simp at e⟩
 cases n with
 | bare =>
  refine ⟨_,rfl,a,_,_,_,rfl,rfl,B,rfl,rfl,_,rfl,?_⟩
  rw [nbl]
  exact ZN fun p o hp z=>q p _ (ZC hp _) (nil p o hp z)
 | fork qs =>
  obtain ⟨t,e,_⟩:=B
  refine ⟨_,rfl,a,_,_,_,rfl,rfl,e,rfl,rfl,_,rfl,?_⟩
  rw [nfl]
  exact ZN fun p o hp z=>q p _ (ZC hp _) (nil p o hp z)
 | leaf m ps =>
  obtain ⟨t,e,J⟩:=B
  refine ⟨_,rfl,a,_,_,_,rfl,rfl,e,rfl,rfl,_,rfl,?_⟩
  rw [decide_eq_true rfl]
  exact Yg ⟨_,rfl,a,_,_,_,rfl,rfl,e,rfl,q t H (Same.refl H) J⟩
theorem scHm:Zp ["node","number"] ["node","number"] (Zk s_has_mark):={}
theorem ZmO (F:Fun K "has_mark" "has_mark" s_has_mark f fd):FnOk P w K mg base ZJ 1 f fd ["node","number"] (Vd K):=by
 refine F.ok scHm (fun D A outer s H vs Q E J h=>?_)
 obtain ⟨a,n,m,rfl,B,q⟩:=h
 refine ⟨_,Zg (Zn (WU (YK Yo (Zo ZO (pv 0) Zd (fun _ _=>rfl)) ZU (ZH _)) (Va (YK Yo (Zo ZO (pv 0) Zd (fun _ _=>rfl)) (pv 1) (ZH _))))),?_⟩
 cases n with
 | bare =>
  refine ⟨_,rfl,a,_,_,_,rfl,rfl,B,rfl,rfl,_,rfl,?_⟩
  rw [nbl]
  exact ZN q
 | fork qs =>
  obtain ⟨t,e,_⟩:=B
  refine ⟨_,rfl,a,_,_,_,rfl,rfl,e,rfl,rfl,_,rfl,?_⟩
  rw [nfl]
  exact ZN q
 | leaf m' ps =>
  obtain ⟨t,e,W⟩:=B
  refine ⟨_,rfl,a,_,_,_,rfl,rfl,e,rfl,rfl,_,rfl,?_⟩
  rw [decide_eq_true rfl]
  refine Yg ⟨_,rfl,a,_,_,_,rfl,rfl,e,rfl,_,rfl,rfl,?_⟩
  have:decide (V.int m'=V.int m)=decide (m'=m):=by
   by_cases z:m'=m
   ·subst z;rw [decide_eq_true rfl,decide_eq_true rfl]
   ·rw [decide_eq_false z,decide_eq_false (fun y=>z (by cases y;rfl))]
  rw [this]
  exact q
theorem scFo:Zp ["parts"] ["parts"] (Zk s_fork_of):={}
theorem ZiU (F:Fun K "fork_of" "fork_of" s_fork_of f fd)(T:Txt K mg):FnOk P w K mg base ZJ 1 f fd ["parts"] (WK K):=by
 refine F.ok scFo (fun B A outer s H vs Q E Y h=>?_)
 obtain ⟨l,qs,rfl,J,D,q⟩:=h
 refine ⟨_,Zg (Zn (YQ (Zb ZU (Zb (Yk ZdV rfl T.tuple (by decide +kernel) (Zb (pv 0) Za)) Za)))),?_⟩
 refine ⟨_,rfl,l,_,rfl,.inl ⟨SqL.of J,fun t W=>⟨(by show 2<=Qi;decide),fun a z=>?_⟩⟩⟩
 exact q a _ ((ZC W _).trans (ZC z _)) ⟨t,SqT.of Zi,SqT.of (ZC z _ _ _ Zi),D⟩
def pvl (H:Hp)(a:Addr):V:=match H a with
 | some (.tup [_,v])=>v
 | _=>.non
def Ug (ps:List (Str×V)):Prop:=ps.Pairwise fun p q=>¬ (q.1.cps.toList < p.1.cps.toList)
theorem Zjc (h:PairT H ts ps)(o:Zet (ps.map (·.1)) ts J):∃ D,D.Perm ps/\Ug D/\PairT H J D:=by
 obtain ⟨zs,hp,e,Y⟩:=o
 have val:∀ (i:Nat) (a:Addr) (p:Str×V),ts[i]?=some a->ps[i]?=some p->pvl H a=p.2:=fun i a p e1 B=>by unfold pvl;rw [h.2 i a p e1 B]
 have hz:((ps.map (·.1)).zip ts).map (fun z=>(z.1,pvl H z.2))=ps:=by
  apply Sy
  intro i
  rw [getElem?_map]
  cases B:ps[i]? with
  | none =>
   have:((ps.map (·.1)).zip ts)[i]?=none:=by
    rw [Se] at B ⊢
    rw [Ts,length_map];omega
   rw [this];rfl
  | some p =>
   have hi:i < ps.length:=(Qg.mp B).1
   obtain ⟨a,ea⟩:∃ a,ts[i]?=some a:=⟨_,getElem?_eq_getElem (by rw [h.1];exact hi)⟩
   have:((ps.map (·.1)).zip ts)[i]?=some (p.1,a):=by
    rw [getElem?_zip_eq_some]
    exact ⟨by rw [getElem?_map,B];rfl,ea⟩
   rw [this]
   show some (p.1,pvl H a)=some p
   rw [val i a p ea B]
 refine ⟨zs.map fun z=>(z.1,pvl H z.2),?_,?_,?_⟩
 ·have:=hp.map fun z:Str×Addr=>(z.1,pvl H z.2)
  rwa [hz] at this
 ·unfold Ug;rw [pairwise_map];exact Y
 ·refine ⟨by rw [e,length_map,length_map],fun i a p e1 B=>?_⟩
  rw [e,getElem?_map] at e1
  rw [getElem?_map] at B
  cases ez:zs[i]? with
  | none=>rw [ez] at e1;cases e1
  | some z =>
   rw [ez] at e1 B
   cases (show some z.2=some a from e1)
   cases (show some (z.1,pvl H z.2)=some p from B)
   have Z:=hp.mem_iff.mp (mem_of_getElem? ez)
   obtain ⟨j,hj⟩:=mem_iff_getElem?.mp Z
   rw [getElem?_zip_eq_some] at hj
   obtain ⟨h1,h2⟩:=hj
   rw [getElem?_map] at h1
   cases e3:ps[j]? with
   | none=>rw [e3] at h1;cases h1
   | some pj =>
    rw [e3] at h1
    have W:pj.1=z.1:=by simpa using h1
    have:=h.2 j z.2 pj h2 e3
    rw [this,val j z.2 pj h2 e3,W]
def Zh (x:Str):Int:=XY x.cps.toList x.length
def XV:Str:=(("leaf_of":Str)++".<locals>.")++"<lambda>"
inductive Vf (K:Qa)(Pl:Addr)(lpos:Pos)(vs:List V)(H:Hp)(Q:VK)(w_3:XK):Prop
 | mk (l:Addr) (ts:List Addr) (ps:List (Str×V)):vs=[.ref l]->H l=some (.lst (ts.map V.ref))->PairT H ts ps->ps≠[]->ps.length < 64->(∀ p∈ps,p.1.length<=1000)->LamAt H Pl lpos XV->(∀ (a:Addr) (H':Hp) (p1:Str×V) (pr:List (Str×V)),Grown Pl H H'->LamAt H' Pl lpos XV->(p1::pr).Perm ps->Ug (p1::pr)->NodeAt K H' a (.leaf (Zh p1.1) (p1::pr))->Q (.ref a) H')->Vf K Pl lpos vs H Q w_3
theorem Grown.trans' (a:Grown Pl H H1)(b:Same H1 H2):Grown Pl H H2:=fun x o n h=>b _ _ (a x o n h)
theorem LamAt.same (h:LamAt H Pl lpos q)(s:Same H H'):LamAt H' Pl lpos q:=by
 rcases h with h | ⟨c,h,h2⟩
 ·exact .inl (s _ _ h)
 ·exact .inr ⟨c,s _ _ h,s _ _ h2⟩
theorem scLf:Zp ["pairs","rising","first_name"] ["pairs"] (Zk s_leaf_of):={}
def Zon:Stmt->Pos
 | .Assign _ (.Call _ _ [⟨_,.Lambda _ _ _ p,_⟩] _) _=>p
 | _=>⟨0,0,0,0⟩
def YV:Pos:=Zon ((XO s_leaf_of).getD 0 (.Pass ⟨0,0,0,0⟩))
theorem ZmR (F:FunC K "leaf_of" "leaf_of" s_leaf_of f fd c Pl)(T:Txt K mg)(hBm:UJ base mg)(DM:Def P w K mg base 1 "mark" ["name"] Ww):FnOk P w K mg base ZJ 2 f fd ["pairs"] (Vf K Pl YV):=by
 refine F.ok scLf (fun A outer s H vs Q E hr h=>?_)
 obtain ⟨l,ts,ps,rfl,el,B,hne,h64,hnl,hL,q⟩:=h
 refine' ⟨?t,?h,?r⟩
 case h =>
  conv=>arg 2;whnf
  with_reducible refine' Ze ?a1 (Ze ?a2 (Zg ?a3))
  case a1=>exact Zx (i:=1) scLf.nd rfl (Qy rfl) (Zfh (c:=c) (Pl:=Pl) rfl T.sorted (pv 0) hr rfl F.hd hBm)
  case a2=>exact Zx (i:=2) scLf.nd rfl (Qy rfl) (Zo ZO (Zo ZD (pv 1) Zd (fun _ _=>rfl)) Zd (fun _ _=>rfl))
  case a3=>exact Zn (YQ (Zb ZU (Zb (ZA DM hr (Zb (pv 2) Za)) (Zb (Yk ZaZ rfl T.tuple (by decide +kernel) (Zb (pv 1) Za)) Za))))
 try dsimp only [ZR,Cx.nox]
 refine zs3 ?_
 intro zD zS zN2 zN1
 refine ⟨_,rfl,l,ts,ps.map (·.1),rfl,el,by rw [B.1];exact h64,by rw [length_map,B.1],fun i t k e1 Z=>?_,hL,fun H2 r ts' gr hL2 hr2 hT=>?_⟩
 ·rw [getElem?_map] at Z
  cases e3:ps[i]? with
  | none=>rw [e3] at Z;cases Z
  | some p =>
   rw [e3] at Z
   have e4:p.1=k:=by simpa using Z
   rw [<- e4]
   exact ⟨_,B.2 i t p e1 e3⟩
 obtain ⟨ps',z,W,J⟩:=Zjc B hT
 obtain ⟨tb,htb⟩:=hL.tbl
 have tf2:TF H H2:=gr.tf htb
 have D:=J.tf tf2
 cases ps' with
 | nil=>exact absurd (Ms z).symm hne
 | cons p1 pr =>
  cases ts' with
  | nil=>have:=J.1;simp at this
  | cons Y tr =>
   have e1:=D.2 0 Y p1 rfl rfl
   have s3:=ZC hr2 (.lst ((Y::tr).map V.ref))
   have hn1:p1.1.length<=1000:=hnl p1 (z.mem_iff.mp mem_cons_self)
   refine ⟨_,rfl,r,_,_,_,rfl,rfl,SqL.of Zi,(show Xd ((Y::tr).map V.ref) ((0:Nat):Int)=some (V.ref Y) from Zr rfl),Y,_,_,_,rfl,rfl,SqT.of (s3 _ _ e1),rfl,?_⟩
   refine ⟨_,rfl,p1.1,rfl,hn1,fun H4 s4=>⟨_,rfl,r,_,rfl,SqL.of (s4 _ _ Zi),fun t o ht hd=>⟨(by show 3<=Qi;decide),fun a ha=>?_⟩⟩⟩
   have s5:=ZC ht (.frz o (.tup ((Y::tr).map V.ref)))
   have s6:=ZC ha (.tup [.str "leaf",.int (Zh p1.1),.ref t])
   have S:=((s3.trans s4).trans s5).trans s6
   refine q a _ p1 pr (Grown.trans' gr S) (LamAt.same hL2 S) z W ⟨t,SqT.of Zi,o,Y::tr,s6 _ _ Zi,hd,D.tf S.tf⟩
end
structure YY (K:Qa)(C:Addr):Prop where
 cl:Cls K C
 nN:NoAttr K C "nodes"
 nT:NoAttr K C "tables"
section
variable {P:Ql}{w:Qs}{K:Qa}{mg:Str->Option Qb}{base:Heap}{C:Addr}
inductive Zfw (K:Qa)(C:Addr)(vs:List V)(H:Hp)(Q:VK)(w_3:XK):Prop
 | mk (p dx:Addr):vs=[.ref p]->H p=some (.ins C dx [])->(∀ (ln dt:Addr) (H':Hp),H ln=none->H dt=none->StoreAt K C p ln dt H' [.bare] [(QD 0,.bl true)]->Kq [p] H H'->Q .non H')->Zfw K C vs H Q w_3
theorem scIn:Zp ["self"] ["self"] (Zk c_Store___init__):={}
theorem ZmP (F:Fun K "__init__" "Store.__init__" c_Store___init__ f fd)(T:Txt K mg)(TC:YY K C):FnOk P w K mg base ZJ 1 f fd ["self"] (Zfw K C):=by
 refine F.ok scIn (fun cdv A outer s H vs Q E hr h=>?_)
 obtain ⟨p,dx,rfl,hp,q⟩:=h
 obtain ⟨ab,hb,hbt⟩:=T.bare
 obtain ⟨tz,hz⟩:=T.zero
 refine ⟨_,Ze (Uv (pv 0) (Yh (Zb (Xv rfl hb (v:=.ref ab) rfl) Za)) rfl) (Zg (Uv (pv 0) (Zng (Zlg (Xv rfl hz (v:=.int 0) ⟨_,rfl⟩) Uc Znk) rfl rfl (by simp) (by decide)) rfl)),?_⟩
 refine ⟨(by show 1<=Qi;decide),fun ln Z=>?_⟩
 have W:p≠ln:=Zs hp Z
 refine ⟨_,rfl,p,C,dx,[],rfl,(by rw [Zl W];exact hp),TC.cl,TC.nN,(by show 0 < 1000;decide),?_⟩
 intro dt B
 have J:p≠dt:=fun z=>by rw [<- z,Zi] at B;cases B
 have Y:ln≠dt:=fun z=>by rw [<- z,Zl W.symm,Zi] at B;cases B
 have D:H dt=none:=by rw [Zl J.symm,Zl Y.symm] at B;exact B
 refine ⟨Zi,[(QD 0,.bl true)],rfl,by decide,_,rfl,p,C,dx,_,rfl,(by rw [Zl J,Zl J,Zi]),TC.cl,TC.nT,(by show 1 < 1000;decide),?_⟩
 refine q ln dt _ Z D ⟨⟨dx,Zi⟩,⟨[ab],?_,rfl,fun i a n e1 e2=>?_⟩,?_⟩ fun b o nb e=>?_
 ·rw [Zl W.symm,Zl Y,Zl Y,Zl W.symm,Zi];rfl
 ·cases i with
  | zero =>
   cases (show some ab=some a from e1)
   cases (show some Nd.bare=some n from e2)
   exact hbt _
  | succ i=>simp at e1
 ·rw [Zl J.symm,Zi];rfl
 ·have nb':b≠p:=fun z=>nb (by simp [z])
  rw [Zl nb',Zl (Zs e D),Zl (Zs e D),Zl nb',Zl (Zs e Z)];exact e
inductive Ve (K:Qa)(C:Addr)(vs:List V)(H:Hp)(Q:VK)(w_3:XK):Prop
 | mk (st ln dt a:Addr) (nds:List Nd) (tabs:List (Zj×V)) (n:Nd):vs=[.ref st,.ref a]->StoreAt K C st ln dt H nds tabs->NodeAt K H a n->nds.length<=100000->(∀ H',StoreAt K C st ln dt H' (nds++[n]) tabs->Kq [ln] H H'->TF H H'->Q (.int nds.length) H')->Ve K C vs H Q w_3
theorem scKe:Zp ["self","node"] ["self","node"] (Zk c_Store_keep):={}
theorem ZmQ (F:Fun K "keep" "Store.keep" c_Store_keep f fd)(T:Txt K mg)(TC:YY K C):FnOk P w K mg base ZJ 1 f fd ["self","node"] (Ve K C):=by
 refine F.ok scKe (fun cdv A outer s H vs Q E hr h=>?_)
 obtain ⟨st,D,dt,a,nds,tabs,n,rfl,⟨⟨dx,ob⟩,⟨as,W,hl,hn⟩,tb⟩,hna,hsz,q⟩:=h
 refine ⟨_,Ze (ZY (YL Qz QF QG Yp (ZS (pv 0) rfl) (Zb (pv 1) Za))) (Zg (Zn (Zt YW (Zz ZL rfl T.len QM (Zb (ZS (pv 0) rfl) Za)) Zd))),?_⟩
 have e1:(as.map V.ref).length < sizeLine:=by rw [length_map,hl];exact QT hsz (by decide)
 refine ⟨_,rfl,st,C,dx,_,_,rfl,ob,TC.cl,TC.nN,XF D dt,.inl ⟨rfl,_,SqL.of W⟩,_,rfl,D,_,_,rfl,rfl,W,e1,?_⟩
 have Z:st≠D:=Zcc ob W (by intro z;cases z)
 have ndl:dt≠D:=Zcc tb W (by intro z;cases z)
 refine ⟨_,rfl,st,C,dx,_,_,rfl,(by rw [Zl Z];exact ob),TC.cl,TC.nN,XF D dt,D,_,rfl,.inl (SqL.of Zi),_,_,rfl,rfl,?_⟩
 have tf:=Zcv (o:=.lst (as.map V.ref++[.ref a])) W
 have e2:((((as.map V.ref++[V.ref a]).length:Nat):Int) - 1)=(nds.length:Int):=by rw [length_append,length_map,hl];show ((nds.length+1:Nat):Int) - 1=_;omega
 have J:Q (.int (nds.length:Int)) (upd H D (.lst (as.map V.ref++[.ref a]))):=by
  refine q _ ⟨⟨dx,by rw [Zl Z];exact ob⟩,⟨as++[a],by rw [map_append];exact Zi,by rw [length_append,length_append,hl];rfl,fun i b m B Y=>?_⟩,by rw [Zl ndl];exact tb⟩ ZbZ tf
  by_cases hi:i < as.length
  ·rw [getElem?_append_left hi] at B
   rw [getElem?_append_left (by rw [<- hl];exact hi)] at Y
   exact (hn i b m B Y).tf tf
  ·rw [getElem?_append_right (by omega)] at B
   rw [getElem?_append_right (by omega)] at Y
   have h0:i - as.length=0:=by
    cases z:i - as.length with
    | zero=>rfl
    | succ j=>rw [z] at B;simp at B
   rw [h0] at B
   rw [show i - nds.length=0 by omega] at Y
   cases (show some a=some b from B)
   cases (show some n=some m from Y)
   exact hna.tf tf
 rw [<- e2] at J
 exact J
inductive Zeh (K:Qa)(C:Addr)(vs:List V)(H:Hp)(Q:VK)(w_3:XK):Prop
 | mk (st ln dt:Addr) (nds:List Nd) (tabs:List (Zj×V)) (n:Int):vs=[.ref st,.int n]->StoreAt K C st ln dt H nds tabs->tabs.length<=100000->(∀ H',StoreAt K C st ln dt H' nds (Yz tabs (QD n) (.bl true))->Kq [dt] H H'->TF H H'->Q (.int n) H')->Zeh K C vs H Q w_3
theorem scAs:Zp ["self","number"] ["self","number"] (Zk c_Store_as_table):={}
theorem Zot (F:Fun K "as_table" "Store.as_table" c_Store_as_table f fd)(Z:YY K C):FnOk P w K mg base ZJ 1 f fd ["self","number"] (Zeh K C):=by
 refine F.ok scAs (fun cdv A outer s H vs Q E hr h=>?_)
 obtain ⟨st,ln,D,nds,B,n,rfl,⟨⟨dx,Y⟩,⟨as,nl,hl,hn⟩,tb⟩,hsz,q⟩:=h
 refine ⟨_,Ze (ZaE (Ua hr) (ZS (pv 0) rfl) (pv 1) Uc rfl) (Zg (Zn (pv 1))),?_⟩
 refine ⟨_,rfl,st,C,dx,_,_,rfl,Y,Z.cl,Z.nT,Zit ln D,_,rfl,D,_,rfl,DPut.k (k:=QD n) tb (QT hsz (by decide)),_,rfl,?_⟩
 have W:st≠D:=Zcc Y tb (by intro z;cases z)
 have J:ln≠D:=Zcc nl tb (by intro z;cases z)
 have tf:=Znz (o:=.dK (Yz B (QD n) (.bl true))) tb
 exact q _ ⟨⟨dx,by rw [Zl W];exact Y⟩,⟨as,by rw [Zl J];exact nl,hl,fun i a m e1 e2=>(hn i a m e1 e2).tf tf⟩,Zi⟩ ZbZ tf
inductive ZaF (K:Qa)(C:Addr)(vs:List V)(H:Hp)(Q:VK)(w_3:XK):Prop
 | mk (st ln dt:Addr) (nds:List Nd) (tabs:List (Zj×V)) (n:Int):vs=[.ref st,.int n]->StoreAt K C st ln dt H nds tabs->(ZG tabs (QD n)).isSome=true->Q .non H->ZaF K C vs H Q w_3
theorem scCk:Zp ["self","table"] ["self","table"] (Zk c_Store_check_table):={}
theorem ZkA (F:Fun K "check_table" "Store.check_table" c_Store_check_table f fd)(z:YY K C):FnOk P w K mg base ZJ 1 f fd ["self","table"] (ZaF K C):=by
 refine F.ok scCk (fun J A outer s H vs Q E W h=>?_)
 obtain ⟨st,Y,D,nds,B,n,rfl,⟨⟨dx,Z⟩,⟨as,nl,hl,hn⟩,tb⟩,hs,q⟩:=h
 refine ⟨_,Zg (Yi (Zfl (Zje (Ua W) (pv 1) (ZS (pv 0) rfl))) (Zg ZlZ) ZV),?_⟩
 refine ⟨_,rfl,_,rfl,st,C,dx,_,_,rfl,Z,z.cl,z.nT,Zit Y D,D,_,rfl,DGet.k (k:=QD n) tb,_,rfl,?_⟩
 rw [hs]
 exact ZN q
end
def Zu (n:Int)(k:Nat):Nat:=(n / 4 ^ k % 4).toNat
theorem Wg (n:Int)(k:Nat):(Zu n k:Int)=n / 4 ^ k % 4:=Int.toNat_of_nonneg (GF _ (by decide))
theorem Xe (n:Int)(k:Nat):Zu n k < 4:=by
 have h1:=Wg n k
 have h2:=Gy (n / 4 ^ k) (show (0:Int) < 4 by decide)
 omega
def Xb (nds:List Nd)(m:Int):Nat->Nat->Nat->Option (List Nat)
 | 0,_,_=>none
 | f+1,lev,num=>match nds[num]? with
  | none=>none
  | some (.fork qs)=>(qs[Zu m lev]?).bind fun q=>(Xb nds m f (lev+1) q).map (num::·)
  | some _=>some [num]
def iN (n:Nat):V:=.int (n:Int)
section
variable {P:Ql}{w:Qs}{K:Qa}{mg:Str->Option Qb}{base:Heap}{C:Addr}
theorem _root_.L2.StoreAt.node {st B J:Addr}{H:Hp}{nds:List Nd}{z:List (Zj×V)}(S:StoreAt K C st B J H nds z){i:Nat}{n:Nd}(h:nds[i]?=some n):∃(as:List Addr)(a:Addr),H B=some (.lst (as.map V.ref))/\as[i]?=some a/\NodeAt K H a n:=by
 obtain ⟨_,⟨as,e,l,D⟩,_⟩:=S
 have hi:i < as.length:=by rw [l];exact (Qg.mp h).1
 exact ⟨as,as[i],e,getElem?_eq_getElem hi,D i _ n (getElem?_eq_getElem hi) h⟩
inductive ZhT (K:Qa)(C:Addr)(vs:List V)(H:Hp)(Q:VK)(w_3:XK):Prop
 | mk (st ln dt:Addr) (nds:List Nd) (tabs:List (Zj×V)) (t:Nat) (x:Str) (f:Nat) (ws:List Nat):vs=[.ref st,iN t,.str x]->StoreAt K C st ln dt H nds tabs->(ZG tabs (QD (t:Int))).isSome=true->x.length<=1000->0<=Zh x->f<=1000->Xb nds (Zh x) f 0 t=some ws->(∀ r H',H r=none->Same H H'->H' r=some (.lst (ws.map iN))->Q (.ref r) H')->ZhT K C vs H Q w_3
theorem scWa:Zp ["self","table","name","told","parts","part"] ["self","table","name"] (Zk c_Store_way):={}
theorem ZoC (F:Fun K "way" "Store.way" c_Store_way f fd)(T:Txt K mg)(TC:YY K C)(DC:DefM P w K mg base 1 C "check_table" ["self","table"] (ZaF K C))(DP:Def P w K mg base 1 "parts_in" ["node"] (Wm K))(DM:Def P w K mg base 1 "mark" ["name"] Ww)(DG:Def P w K mg base 1 "digit" ["number","level"] Wl):FnOk P w K mg base ZJ 2 f fd ["self","table","name"] (ZhT K C):=by
 refine F.ok scWa (fun cdv A outer s H vs Q E hr h=>?_)
 obtain ⟨st,ln,dt,nds,tabs,t,x,fu,ws,rfl,S,htab,hx,hm,hfu,W,q⟩:=h
 refine' ⟨?t,?h,?r⟩
 case h =>
  conv=>arg 2;whnf
  with_reducible refine' Ze ?a1 (Ze ?a2 (Ze ?a3 (Ze (VB ?w0 ?w1 (Ze ?b1 (Ze ?b2 (Zg ?b3)))) (Zg ?a5))))
  case a1=>exact ZY (ZT DC TC.cl hr (pv 0) (Zb (pv 1) Za))
  case a2=>exact Zx (i:=3) scWa.nd rfl (Qy rfl) (Yh (Zb (pv 1) Za))
  case a3=>exact Zx (i:=4) scWa.nd rfl (Qy rfl) (ZA DP hr (Zb (Zo ZD (ZS (pv 0) rfl) (pv 1) (fun _ _=>rfl)) Za))
  case w0=>exact Ga
  case w1=>exact VC (pv 4) (fun _=>rfl)
  case b1=>exact Zx (i:=5) scWa.nd rfl (Qy rfl) (Zo ZO (pv 4) (ZA DG hr (Zb (ZA DM hr (Zb (pv 2) Za)) (Zb (Zt YW (Zz ZL rfl T.len QM (Zb (pv 3) Za)) Zd) Za))) (fun _ _=>rfl))
  case b2=>exact ZY (YL Qz QF QG Yp (pv 3) (Zb (pv 5) Za))
  case b3=>exact Zx (i:=4) scWa.nd rfl (Qy rfl) (ZA DP hr (Zb (Zo ZD (ZS (pv 0) rfl) (pv 5) (fun _ _=>rfl)) Za))
  case a5=>exact Zn (pv 3)
 try dsimp only [ZR,Cx.nox]
 refine zs5 ?_
 intro zD zS zN4 zN3 zN2 zN1
 obtain ⟨dx,ob⟩:=S.ob
 refine ⟨_,rfl,st,dx,_,rfl,ob,ZM ln dt (by decide +kernel) (by decide +kernel),_,rfl,st,ln,dt,nds,tabs,t,rfl,S,htab,_,rfl,(by show 1<=Qi;decide),fun l hl=>?_⟩
 obtain ⟨n,hn⟩:∃ n,nds[t]?=some n:=by
  cases fu with
  | zero=>cases W
  | succ fu =>
   cases e:nds[t]? with
   | none=>unfold Xb at W;rw [e] at W;cases W
   | some n=>exact ⟨n,rfl⟩
 have s1:=ZC hl (.lst [iN t])
 have S1:=S.keep s1
 obtain ⟨as,a,nl,ha,hna⟩:=S1.node hn
 obtain ⟨dx1,ob1⟩:=S1.ob
 refine ⟨_,rfl,st,C,dx1,_,_,rfl,ob1,TC.cl,TC.nN,XF ln dt,_,rfl,ln,_,_,_,rfl,rfl,SqL.of nl,Zr (by rw [getElem?_map,ha];rfl),a,n,rfl,hna,fun pt H2 s2 hpt=>?_⟩
 refine ⟨fun Y σ H'=>∃ (B wr:List Nat) (D:Nat) (n:Nd) (pt:Addr) (y:Option V),σ=[some (.ref st),some (iN t),some (.str x),some (.ref l),some (.ref pt),y]/\Same H H'/\H' l=some (.lst ((B++[D]).map iN))/\nds[D]?=some n/\SqT K H' pt (n.parts.map iN)/\Xb nds (Zh x) Y B.length D=some wr/\ws=B++wr/\Y+B.length<=1000,
  ⟨fu,[],ws,t,n,pt,_,rfl,s1.trans s2,s2 _ _ Zi,hn,hpt,W,rfl,by simpa using hfu⟩,?_⟩
 rintro Y σ H3 ⟨B,wr,D,n,pt,y,rfl,s3,hl3,hn3,hpt3,J,rfl,hfl⟩
 refine ⟨_,rfl,_,.inr (.inl ⟨_,hpt3,rfl⟩),?_⟩
 have stop:n.parts=[]->Xb nds (Zh x) Y B.length D=some [D]:=fun z=>by
  cases Y with
  | zero=>cases J
  | succ Y =>
   unfold Xb at J ⊢
   rw [hn3] at J ⊢
   cases n with
   | bare=>rfl
   | leaf m ps=>rfl
   | fork qs =>
    have z':qs=[]:=z
    subst z'
    simp at J
 by_cases hz:n.parts=[]
 ·rw [hz]
  refine ZN ⟨_,rfl,?_⟩
  have e:=stop hz
  rw [J] at e
  cases e
  exact q l H3 hl s3 hl3
 ·have hk : (!(n.parts.map iN).isEmpty)=true:=by
   cases e:n.parts with
   | nil=>exact absurd e hz
   | cons _ _=>rfl
  rw [hk]
  cases n with
  | bare=>exact absurd rfl hz
  | leaf m ps=>exact absurd rfl hz
  | fork qs =>
   cases Y with
   | zero=>cases J
   | succ Y =>
    unfold Xb at J
    rw [hn3] at J
    cases eq1:qs[Zu (Zh x) B.length]? with
    | none=>simp [eq1] at J
    | some q1 =>
     have Z:(Xb nds (Zh x) Y (B.length+1) q1).map (D::·)=some wr:=by simpa [eq1] using J
     cases eq2:Xb nds (Zh x) Y (B.length+1) q1 with
     | none=>rw [eq2] at Z;cases Z
     | some wr' =>
      rw [eq2] at Z
      have ewr:D::wr'=wr:=by simpa using Z
      obtain ⟨n',hn'⟩:∃ n',nds[q1]?=some n':=by
       cases Y with
       | zero=>cases eq2
       | succ Y =>
        cases e:nds[q1]? with
        | none=>unfold Xb at eq2;rw [e] at eq2;cases eq2
        | some n=>exact ⟨n,rfl⟩
      have e2:((((B++[D]).map iN).length:Nat):Int) - 1=(B.length:Int):=by rw [length_map,length_append];show ((B.length+1:Nat):Int) - 1=_;omega
      have hat:Xd (qs.map iN) (Zh x / 4 ^ B.length % 4)=some (iN q1):=by rw [<- Wg];exact Zr (by rw [getElem?_map,eq1];rfl)
      refine Yg ⟨_,fun σ' H' h=>⟨Y,GN _,h⟩,_,rfl,_,rfl,x,rfl,hx,fun H4 s4=>?_⟩
      refine ⟨_,rfl,l,_,rfl,.inl (SqL.of (s4 _ _ hl3)),_,_,rfl,rfl,Zh x,B.length,congrArg (fun z=>[V.int (Zh x),V.int z]) e2,hm,by omega,pt,_,_,_,rfl,rfl,hpt3.tf s4.tf,hat,?_⟩
      refine ⟨_,rfl,.inl ⟨rfl,_,SqL.of (s4 _ _ hl3)⟩,_,rfl,l,_,_,rfl,rfl,s4 _ _ hl3,(by rw [length_map,length_append];show B.length+1 < Qi;exact QT (show B.length+1<=1001 by omega) (by decide)),?_⟩
      have s5:Same H (upd H4 l (.lst ((B++[D]).map iN++[iN q1]))):=fun b o e=>by rw [Zl (Zs e hl)];exact s4 _ _ (s3 _ _ e)
      have S5:=S.keep s5
      obtain ⟨as5,a5,nl5,ha5,hna5⟩:=S5.node hn'
      obtain ⟨dx5,ob5⟩:=S5.ob
      refine ⟨_,rfl,st,C,dx5,_,_,rfl,ob5,TC.cl,TC.nN,XF ln dt,_,rfl,ln,_,_,_,rfl,rfl,SqL.of nl5,Zr (by rw [getElem?_map,ha5];rfl),a5,n',rfl,hna5,fun pt6 H6 s6 hpt6=>?_⟩
      refine ⟨B++[D],wr',q1,n',pt6,_,rfl,s5.trans s6,?_,hn',hpt6,?_,?_,?_⟩
      ·rw [map_append];exact s6 _ _ Zi
      ·rw [length_append];exact eq2
      ·rw [<- ewr,append_assoc];rfl
      ·rw [length_append];show Y+(B.length+1)<=1000;omega
def lk (ps:List (Str×V))(x:Str):Option V:=ZG (ps.map fun p=>((QK p.1:Zj),p.2)) (QK x)
inductive WL (K:Qa)(C:Addr)(vs:List V)(H:Hp)(Q:VK)(w_3:XK):Prop
 | mk (st ln dt:Addr) (nds:List Nd) (tabs:List (Zj×V)) (t:Nat) (x:Str) (f:Nat) (ws:List Nat) (e:Nat) (n:Nd):vs=[.ref st,iN t,.str x]->StoreAt K C st ln dt H nds tabs->(ZG tabs (QD (t:Int))).isSome=true->x.length<=1000->0<=Zh x->f<=1000->Xb nds (Zh x) f 0 t=some (ws++[e])->nds[e]?=some n->n.pairs.length<=1000->(n.pairs.map (·.1)).Nodup->(∀ H',Same H H'->Q ((lk n.pairs x).getD .non) H')->WL K C vs H Q w_3
theorem scLo:Zp ["self","table","name","end"] ["self","table","name"] (Zk c_Store_looked):={}
theorem ZdA (F:Fun K "looked" "Store.looked" c_Store_looked f fd)(T:Txt K mg)(Y:YY K C)(DW:DefM P w K mg base 2 C "way" ["self","table","name"] (ZhT K C))(DR:Def P w K mg base 1 "pairs_in" ["node"] (Xx K)):FnOk P w K mg base ZJ 3 f fd ["self","table","name"] (WL K C):=by
 refine F.ok scLo (fun cdv A outer s H vs Q E hr h=>?_)
 obtain ⟨st,W,dt,nds,D,t,x,fu,ws,e,n,rfl,S,B,hx,hm,Z,J,hn,hsz,hnd,q⟩:=h
 refine' ⟨?t,?h,?r⟩
 case h =>
  conv=>arg 2;whnf
  with_reducible refine' Ze ?a1 (Zg ?a2)
  case a1=>exact Zx (i:=3) scLo.nd rfl (Qy rfl) (Zo ZD (ZT DW Y.cl hr (pv 0) (Zb (pv 1) (Zb (pv 2) Za))) (Zhs ZfE Zd) (fun _ _=>rfl))
  case a2=>exact Zn (Zbl (Ua hr) (Yk (UA rfl) rfl T.dict (by decide +kernel) (Zb (ZA DR (hr.mono (by decide)) (Zb (Zo ZD (ZS (pv 0) rfl) (pv 3) (fun _ _=>rfl)) Za)) Za)) (pv 2) ⟨rfl,rfl,rfl,rfl⟩)
 try dsimp only [ZR,Cx.nox]
 refine UI ?_
 intro zD zS zN1
 obtain ⟨dx,ob⟩:=S.ob
 refine ⟨_,rfl,st,dx,_,rfl,ob,ZM W dt (by decide +kernel) (by decide +kernel),_,rfl,_,rfl,st,W,dt,nds,D,t,x,fu,_,rfl,S,B,hx,hm,Z,J,fun r H1 hr1 s1 el=>?_⟩
 refine ⟨_,rfl,r,_,_,iN e,rfl,rfl,SqL.of el,(by rw [map_append];exact ZjX _ _),?_⟩
 have S1:=S.keep s1
 obtain ⟨as,a,nl,ha,hna⟩:=S1.node hn
 obtain ⟨dx1,ob1⟩:=S1.ob
 refine ⟨_,rfl,st,C,dx1,_,_,rfl,ob1,Y.cl,Y.nN,XF W dt,_,rfl,W,_,_,_,rfl,rfl,SqL.of nl,Zr (by rw [getElem?_map,ha];rfl),a,n,rfl,hna,fun pt H2 s2 hpt=>?_⟩
 obtain ⟨o,ts,ept,hod,z,hp⟩:=hpt
 refine ⟨pt,ts,n.pairs,rfl,⟨o,ept,hod⟩,z,hsz,hp,hnd,fun d hd=>⟨d,rfl,.inl ⟨_,.inl Zi⟩,_,rfl,_,DGet.k (k:=QK x) Zi,?_⟩⟩
 exact q _ ((s1.trans s2).trans (ZC hd _))
end
def Yn (num lev:Nat):Nd->List Nat
 | .fork qs=>qs
 | .leaf m _=>[0,1,2,3].map fun g=>if g=Zu m lev then num else 0
 | .bare=>[]
def Zer:Nd->Prop
 | .leaf m ps=>∃ p1 pr,ps=p1::pr/\Zh p1.1=m/\p1.1.length<=1000/\0<=m
 | _=>True
section
variable {P:Ql}{w:Qs}{K:Qa}{mg:Str->Option Qb}{base:Heap}{C:Addr}
inductive ZhN (K:Qa)(C:Addr)(vs:List V)(H:Hp)(Q:VK)(w_3:XK):Prop
 | mk (st ln dt:Addr) (nds:List Nd) (tabs:List (Zj×V)) (num lev:Nat) (n:Nd):vs=[.ref st,iN num,iN lev]->StoreAt K C st ln dt H nds tabs->nds[num]?=some n->n≠.bare->Zer n->lev<=1000->(∀ r H',H r=none->Same H H'->H' r=some (.lst ((Yn num lev n).map iN))->Q (.ref r) H')->ZhN K C vs H Q w_3
abbrev nFp:List Str:=["self","number","level","node","first_name","at"]
theorem scFp:Zp nFp ["self","number","level"] (Zk c_Store_fork_parts):={}
theorem ZpD (F:Fun K "fork_parts" "Store.fork_parts" c_Store_fork_parts f fd)(T:Txt K mg)(TC:YY K C)(DP:Def P w K mg base 1 "parts_in" ["node"] (Wm K))(DR:Def P w K mg base 1 "pairs_in" ["node"] (Xx K))(DM:Def P w K mg base 1 "mark" ["name"] Ww)(DG:Def P w K mg base 1 "digit" ["number","level"] Wl):FnOk P w K mg base ZJ 2 f fd ["self","number","level"] (ZhN K C):=by
 refine F.ok scFp (fun cdv A outer s H vs Q E hr h=>?_)
 obtain ⟨st,ln,dt,nds,tabs,B,lev,n,rfl,S,hn,hnb,hok,hlev,q⟩:=h
 obtain ⟨tz,hz⟩:=T.zero
 obtain ⟨af,hf,hft⟩:=T.figs
 refine' ⟨?t,?h,?r⟩
 case h =>
  conv=>arg 2;whnf
  with_reducible refine' Ze ?a1 (Ze ?a2 (Ze ?a3 (Ze ?a4 (Zg ?a5))))
  case a1=>exact Zx (i:=3) scFp.nd rfl (Qy rfl) (Zo ZD (ZS (pv 0) rfl) (pv 1) (fun _ _=>rfl))
  case a2=>exact Yi (VC (ZA DP hr (Zb (pv 3) Za)) (fun _=>rfl)) (Zg (Zn (Yk Um rfl T.list (by decide +kernel) (Zb (ZA DP hr (Zb (pv 3) Za)) Za)))) ZV
  case a3=>exact Zx (i:=4) scFp.nd rfl (Qy rfl) (Zo ZO (Zo ZO (ZA DR hr (Zb (pv 3) Za)) Zd (fun _ _=>rfl)) Zd (fun _ _=>rfl))
  case a4=>exact Zx (i:=5) scFp.nd rfl (Jg rfl) (ZA DG hr (Zb (ZA DM hr (Zb (pv 4) Za)) (Zb (pv 2) Za)))
  case a5=>exact Zn (WE (CompOk.of nFp c_Store_fork_parts rfl rfl (by decide +kernel)) rfl (Zfi (Xv rfl hf (v:=.ref af) rfl)) (fun _ _ _ _ _=>Uu (ZP Yo (pv 6) (pv 5) (ZH _)) (pv 1) (Xv rfl hz (v:=.int 0) ⟨_,rfl⟩)))
 try dsimp only [ZR,Cx.nox]
 refine zs5 ?_
 intro zD zS zN4 zN3 zN2 zN1
 obtain ⟨as,a,nl,ha,W⟩:=S.node hn
 obtain ⟨dx,ob⟩:=S.ob
 refine ⟨_,rfl,st,C,dx,_,_,rfl,ob,TC.cl,TC.nN,XF ln dt,_,rfl,ln,_,_,_,rfl,rfl,SqL.of nl,Zr (by rw [getElem?_map,ha];rfl),?_⟩
 refine ⟨_,rfl,a,n,rfl,W,fun pt H2 s2 hpt=>⟨_,.inr (.inl ⟨_,hpt,rfl⟩),?_⟩⟩
 cases n with
 | bare=>exact absurd rfl hnb
 | fork qs =>
  have h4:qs.length=4:=by obtain ⟨_,_,_,z⟩:=W;exact z
  have hk:(!(((Nd.fork qs).parts).map (fun q:Nat=>V.int (q:Int))).isEmpty)=true:=by
   cases qs with
   | nil=>cases h4
   | cons _ _=>rfl
  rw [hk]
  refine Yg ⟨_,rfl,a,_,rfl,W.tf s2.tf,fun Z H3 s3 J=>⟨Z,_,rfl,.inr J,fun l hl=>?_⟩⟩
  have hl0:H l=none:=by
   cases e:H l with
   | none=>rfl
   | some o=>rw [s3 _ _ (s2 _ _ e)] at hl;cases hl
  exact q l _ hl0 ((s2.trans s3).trans (ZC hl _)) Zi
 | leaf m ps =>
  obtain ⟨p1,pr,rfl,hm1,hx1,hm0⟩:=hok
  refine ZN ⟨_,rfl,a,_,rfl,W.tf s2.tf,fun Z H3 s3 J=>?_⟩
  obtain ⟨o,ts,ept,hod,hlen,hp⟩:=J
  cases ts with
  | nil=>simp [Nd.pairs] at hlen
  | cons t1 tr =>
   have et1:=hp 0 t1 p1 rfl rfl
   refine ⟨Z,_,_,_,rfl,rfl,.inl (.inr ⟨o,ept⟩),(show Xd ((t1::tr).map V.ref) ((0:Nat):Int)=some (V.ref t1) from Zr rfl),t1,_,_,_,rfl,rfl,SqT.of et1,rfl,?_⟩
   refine ⟨_,rfl,p1.1,rfl,hx1,fun H4 s4=>⟨_,rfl,Zh p1.1,lev,rfl,by rw [hm1];exact hm0,hlev,?_⟩⟩
   refine ⟨af,rfl,⟨_,hft _⟩,fun D hD=>?_⟩
   have s24:=(s2.trans s3).trans s4
   have hD0:H D=none:=by
    cases e:H D with
    | none=>rfl
    | some o=>rw [s24 _ _ e] at hD;cases hD
   refine Zkd (K:=K) (a:=af) (xs:=[.int 0,.int 1,.int 2,.int 3]) (by show 4<=Qi;decide) (fun i ys H'=>ys=(([0,1,2,3]:List Nat).take i).map (fun g=>iN (if g=Zu m lev then B else 0))/\i<=4/\H' D=some (.lst ys)/\Same H H') ?_ ?_ ?_ ?_
   ·exact ⟨rfl,by decide,Zi,s24.trans (ZC hD _)⟩
   ·rintro i ys H5 ⟨rfl,hi,_,_⟩
    exact ⟨by rw [length_map,length_take];show min i 4=i;omega,hft _⟩
   ·rintro i x ys H5 hi ⟨rfl,hi4,Y,s5⟩
    have hi':i < 4:=(Qg.mp hi).1
    have ex:x=iN i:=by
     rcases i with _ | _ | _ | _ | i
     ·cases hi;rfl
     ·cases hi;rfl
     ·cases hi;rfl
     ·cases hi;rfl
     ·omega
    subst ex
    have fin:∀ y,y=iN (if i=Zu m lev then B else 0)->H5 D=some (.lst ((([0,1,2,3]:List Nat).take i).map (fun g=>iN (if g=Zu m lev then B else 0))))/\(((([0,1,2,3]:List Nat).take i).map (fun g=>iN (if g=Zu m lev then B else 0))++[y])=(([0,1,2,3]:List Nat).take (i+1)).map (fun g=>iN (if g=Zu m lev then B else 0))/\i+1<=4/\upd H5 D (.lst ((([0,1,2,3]:List Nat).take i).map (fun g=>iN (if g=Zu m lev then B else 0))++[y])) D=some (.lst ((([0,1,2,3]:List Nat).take i).map (fun g=>iN (if g=Zu m lev then B else 0))++[y]))/\Same H (upd H5 D (.lst ((([0,1,2,3]:List Nat).take i).map (fun g=>iN (if g=Zu m lev then B else 0))++[y])))):=by
     intro y ey
     refine ⟨Y,?_,by omega,Zi,fun b o e=>by rw [Zl (Zs e hD0)];exact s5 _ _ e⟩
     subst ey
     rcases i with _ | _ | _ | _ | i
     ·rfl
     ·rfl
     ·rfl
     ·rfl
     ·omega
    have ed:decide (iN i=V.int (Zh p1.1 / 4 ^ lev % 4))=decide (i=Zu m lev):=by
     rw [hm1,<- Wg]
     by_cases z:i=Zu m lev
     ·rw [decide_eq_true z,z];exact decide_eq_true rfl
     ·rw [decide_eq_false z]
      exact decide_eq_false fun y=>z (by have:=V.int.inj y;omega)
    refine ⟨_,rfl,_,rfl,rfl,_,rfl,?_⟩
    rw [ed]
    by_cases z:i=Zu m lev
    ·rw [decide_eq_true z]
     exact Yg ⟨_,rfl,fin _ (by rw [if_pos z])⟩
    ·rw [decide_eq_false z]
     exact ZN (fin _ (by rw [if_neg z];rfl))
   ·rintro ys H5 ⟨rfl,_,Y,s5⟩
    refine q D H5 hD0 s5 ?_
    rw [Y]
    rfl
end
def gK (p:Str×V):Zj×V:=(QK p.1,p.2)
theorem Zoo (ps:List (Str×V))(x:Str):lk ps x=ZG (ps.map gK) (QK x):=rfl
theorem ZiM (x:Str):lk [] x=none:=rfl
theorem Wh (p:Str×V)(ps:List (Str×V))(x:Str):lk (p::ps) x=if p.1=x then some p.2 else lk ps x:=by
 by_cases h:p.1=x
 ·rw [if_pos h];exact YU (show (gK p).1=QK x by rw [<- h];rfl)
 ·rw [if_neg h];exact YT (show ¬ (gK p).1=QK x from fun z=>h (Sk z))
theorem YC (B:(ps.map (·.1)).Nodup):lk ps x=some v↔(x,v)∈ps:=by
 induction ps with
 | nil=>simp [ZiM]
 | cons p ps ih =>
  rw [map_cons,nodup_cons] at B
  rw [Wh]
  by_cases h:p.1=x
  ·rw [if_pos h]
   constructor
   ·intro e
    cases e
    rw [<- h];exact mem_cons_self
   ·intro e
    rcases mem_cons.mp e with e | e
    ·rw [<- e]
    ·exact absurd (h ▸ OE (f:=(·.1)) e) B.1
  ·rw [if_neg h,ih B.2,mem_cons]
   exact ⟨.inr,fun e=>e.resolve_left fun z=>h (by rw [<- z])⟩
theorem Zgl (h:∀ p∈ps,p.1≠x):lk ps x=none:=by
 induction ps with
 | nil=>rfl
 | cons p ps ih=>rw [Wh,if_neg (h p mem_cons_self)];exact ih fun q z=>h q (mem_cons_of_mem _ z)
theorem Zgm (h:ps.Perm qs)(B:(qs.map (·.1)).Nodup)(x:Str):lk ps x=lk qs x:=by
 have z:(ps.map (·.1)).Nodup:=(h.map (·.1)).nodup_iff.mpr B
 cases e:lk qs x with
 | some v=>exact (YC z).mpr (h.mem_iff.mpr ((YC B).mp e))
 | none =>
  cases e2:lk ps x with
  | none=>rfl
  | some v=>rw [(YC B).mpr (h.mem_iff.mp ((YC z).mp e2))] at e;cases e
def Xi (ps:List (Str×V))(x:Str)(v:V):List (Str×V) :=
 if (ps.any fun p=>decide (p.1=x))=true then ps.map (fun p=>if p.1=x then (p.1,v) else p) else ps++[(x,v)]
theorem VD (ps:List (Str×V))(x:Str)(v:V):Yz (ps.map gK) (QK x) v=(Xi ps x v).map gK:=by
 have e:∀ p:Str×V,decide ((gK p).1=QK x)=decide (p.1=x):=fun p=>by
  by_cases h:p.1=x
  ·rw [decide_eq_true h];exact decide_eq_true (by rw [<- h];rfl)
  ·rw [decide_eq_false h];exact decide_eq_false fun z=>h (Sk z)
 have e1:((ps.map gK).any fun B=>decide (B.1=QK x))=ps.any fun p=>decide (p.1=x):=by
  rw [List.any_map];congr 1;funext p;exact e p
 unfold Yz Xi
 rw [e1]
 by_cases h:(ps.any fun p=>decide (p.1=x))=true
 ·rw [if_pos h,if_pos h,map_map,map_map]
  congr 1
  funext p
  show (if (gK p).1=QK x then ((gK p).1,v) else gK p)=gK (if p.1=x then (p.1,v) else p)
  by_cases z:p.1=x
  ·rw [if_pos z,if_pos (show (gK p).1=QK x by rw [<- z];rfl)];rfl
  ·rw [if_neg z,if_neg (show ¬ (gK p).1=QK x from fun y=>z (Sk y))]
 ·rw [if_neg h,if_neg h,map_append];rfl
theorem ZdE (ps:List (Str×V))(x:Str)(v:V):(Xi ps x v).map (·.1)=if x∈ps.map (·.1) then ps.map (·.1) else ps.map (·.1)++[x]:=by
 have e:(ps.any fun p=>decide (p.1=x))=true↔x∈ps.map (·.1):=by
  rw [Mt,mem_map]
  exact ⟨fun ⟨p,h,z⟩=>⟨p,h,of_decide_eq_true z⟩,fun ⟨p,h,z⟩=>⟨p,h,decide_eq_true z⟩⟩
 unfold Xi
 by_cases h:(ps.any fun p=>decide (p.1=x))=true
 ·rw [if_pos h,if_pos (e.mp h),map_map]
  apply Jl
  intro p _
  show (if p.1=x then (p.1,v) else p).1=p.1
  split<;>rfl
 ·rw [if_neg h,if_neg fun z=>h (e.mpr z),map_append];rfl
theorem ZcS (ps:List (Str×V))(x y:Str)(v:V):lk (Xi ps x v) y=if y=x then some v else lk ps y:=by
 rw [Zoo,<- VD,Uy]
 by_cases h:y=x
 ·rw [if_pos h,if_pos (by rw [h])]
 ·rw [if_neg h,if_neg fun z=>h (Sk z)];rfl
structure ZZ (NS:List Str):Prop where
 few:NS.length < 64
 len:∀ x∈NS,x.length<=1000
 lo:∀ x∈NS,0<=Zh x
 hi:∀ x∈NS,Zh x < 1024
structure LeafG (NS:List Str)(m:Int)(ps:List (Str×V)):Prop where
 ne:ps≠[]
 nd:(ps.map (·.1)).Nodup
 sub:∀ p∈ps,p.1∈NS
 mrk:∀ p∈ps,Zh p.1=m
def Yf (x:Str):Nat:=(Zh x).toNat
def TriE (NS:List Str)(nds:List Nd)(F:Str->Option V)(lev r num:Nat):Prop :=
 (num=0/\nds[num]?=some .bare/\∀ x∈NS,Yf x % 4 ^ lev=r->F x=none) \/
 ∃ m ps,nds[num]?=some (.leaf m ps)/\LeafG NS m ps/\m.toNat % 4 ^ lev=r/\∀ x∈NS,Yf x % 4 ^ lev=r->F x=lk ps x
def Tri (NS:List Str)(nds:List Nd)(F:Str->Option V):Nat->Nat->Nat->Nat->Prop
 | 0,lev,r,num=>TriE NS nds F lev r num
 | d+1,lev,r,num=>TriE NS nds F lev r num\/∃ qs,nds[num]?=some (.fork qs)/\qs.length=4/\∀ i q,qs[i]?=some q->Tri NS nds F d (lev+1) (r+i * 4 ^ lev) q
def NEx (nds nds':List Nd):Prop:=∀(i:Nat)(n:Nd),nds[i]?=some n->nds'[i]?=some n
theorem NEx.refl (nds:List Nd):NEx nds nds:=fun _ _ h=>h
theorem NEx.trans (h:NEx a b)(h':NEx b c):NEx a c:=fun i n e=>h' i n (h i n e)
theorem NEx.app (nds:List Nd)(n:Nd):NEx nds (nds++[n]):=fun i m e=>by rw [getElem?_append_left (Qg.mp e).1];exact e
section
variable {NS:List Str}{nds nds':List Nd}{F F':Str->Option V}
theorem TriE.mono {lev r z:Nat}(h:TriE NS nds F lev r z)(e:NEx nds nds'):TriE NS nds' F lev r z:=by
 rcases h with ⟨h1,h2,B⟩ | ⟨m,ps,h1,h2⟩
 ·exact .inl ⟨h1,e _ _ h2,B⟩
 ·exact .inr ⟨m,ps,e _ _ h1,h2⟩
theorem Tri.mono:∀(d:Nat){lev r z:Nat},Tri NS nds F d lev r z->NEx nds nds'->Tri NS nds' F d lev r z
 | 0,_,_,_,h,e=>TriE.mono h e
 | d+1,_,_,_,.inl h,e=>.inl (TriE.mono h e)
 | d+1,_,_,_,.inr ⟨qs,h1,h2,h3⟩,e=>.inr ⟨qs,e _ _ h1,h2,fun i q B=>Tri.mono d (h3 i q B) e⟩
theorem TriE.congr {lev r D:Nat}(h:TriE NS nds F lev r D)(e:∀ x∈NS,Yf x % 4 ^ lev=r->F' x=F x):TriE NS nds F' lev r D:=by
 rcases h with ⟨h1,h2,J⟩ | ⟨m,ps,h1,h2,J,W⟩
 ·exact .inl ⟨h1,h2,fun x B z=>by rw [e x B z];exact J x B z⟩
 ·exact .inr ⟨m,ps,h1,h2,J,fun x B z=>by rw [e x B z];exact W x B z⟩
theorem Xw (n lev:Nat):n % 4 ^ (lev+1)=n % 4 ^ lev+(n / 4 ^ lev % 4) * 4 ^ lev:=by
 rw [RE,MD,Rw (4 ^ lev)]
theorem YR {n lev r i:Nat}(B:r < 4 ^ lev)(h:n % 4 ^ (lev+1)=r+i * 4 ^ lev):n % 4 ^ lev=r/\n / 4 ^ lev % 4=i:=by
 rw [Xw] at h
 have hp:0 < 4 ^ lev:=Nat.pow_pos (by decide)
 have h1:=No n hp
 have e1:n % 4 ^ lev=r:=by
  have z:=congrArg (· % 4 ^ lev) h
  simp only [Nat.add_mul_mod_self_right] at z
  rwa [Nat.mod_mod,Mu B] at z
 refine ⟨e1,?_⟩
 rw [e1] at h
 exact Sa hp (Nat.add_left_cancel h)
theorem Xg {lev r i:Nat}(z:r < 4 ^ lev)(hi:i < 4):r+i * 4 ^ lev < 4 ^ (lev+1):=by
 rw [RE]
 have:i * 4 ^ lev<=3 * 4 ^ lev:=Th _ (by omega)
 omega
theorem Tri.congr:∀(d:Nat){lev r z:Nat},r < 4 ^ lev->Tri NS nds F d lev r z->(∀ x∈NS,Yf x % 4 ^ lev=r->F' x=F x)->Tri NS nds F' d lev r z
 | 0,_,_,_,_,h,e=>TriE.congr h e
 | d+1,_,_,_,_,.inl h,e=>.inl (TriE.congr h e)
 | d+1,_,_,_,hr,.inr ⟨qs,h1,h2,h3⟩,e=>.inr ⟨qs,h1,h2,fun i q B=>Tri.congr d (Xg hr (by rw [<- h2];exact (Qg.mp B).1)) (h3 i q B) fun x D hz=>e x D (YR hr hz).1⟩
theorem YE {n:Int}(h:0<=n)(lev:Nat):Zu n lev=n.toNat / 4 ^ lev % 4:=by
 obtain ⟨k,rfl⟩:=GB h
 unfold Zu
 have:((k:Int) / 4 ^ lev % 4)=((k / 4 ^ lev % 4:Nat):Int):=by norm_cast
 rw [this]
 rfl
theorem ZnA (N:ZZ NS):∀(d:Nat){lev r z:Nat}{x:Str},r < 4 ^ lev->Tri NS nds F d lev r z->x∈NS->Yf x % 4 ^ lev=r ->
 ∃ W e n,Xb nds (Zh x) (d+1) lev z=some (W++[e])/\nds[e]?=some n/\((e=0/\n=.bare/\F x=none)\/∃ m ps,n=.leaf m ps/\LeafG NS m ps/\F x=lk ps x):=by
 have B:∀ {lev r z:Nat} {x:Str} (d:Nat),TriE NS nds F lev r z->x∈NS->Yf x % 4 ^ lev=r->∃ W e n,Xb nds (Zh x) (d+1) lev z=some (W++[e])/\nds[e]?=some n/\((e=0/\n=.bare/\F x=none)\/∃ m ps,n=.leaf m ps/\LeafG NS m ps/\F x=lk ps x):=by
  intro lev r z x d h D J
  rcases h with ⟨h1,h2,Y⟩ | ⟨m,ps,h1,h2,Y,h4⟩
  ·exact ⟨[],z,.bare,by unfold Xb;rw [h2];rfl,h2,.inl ⟨h1,rfl,Y x D J⟩⟩
  ·exact ⟨[],z,.leaf m ps,by unfold Xb;rw [h1];rfl,h1,.inr ⟨m,ps,rfl,h2,h4 x D J⟩⟩
 intro d
 induction d with
 | zero=>exact fun _ h D J=>B 0 h D J
 | succ d ih =>
  intro lev r z x Z h D J
  rcases h with h | ⟨qs,h1,h2,Y⟩
  ·exact B _ h D J
  ·have hi:Zu (Zh x) lev < qs.length:=by rw [h2];exact Xe _ _
   have hq:=getElem?_eq_getElem hi
   obtain ⟨W,e,n,e1,e2,e3⟩:=ih (Xg Z (Xe _ _)) (Y _ _ hq) D (by rw [Xw,J,YE (N.lo x D)];rfl)
   refine ⟨z::W,e,n,?_,e2,e3⟩
   unfold Xb
   rw [h1]
   show ((qs[Zu (Zh x) lev]?).bind fun q=>(Xb nds (Zh x) (d+1) (lev+1) q).map (z::·))=_
   rw [hq]
   show (Xb nds (Zh x) (d+1) (lev+1) _).map (z::·)=_
   rw [e1]
   rfl
end
theorem ZaB:∀{l N:List Str},l.Nodup->(∀ x∈l,x∈N)->l.length<=N.length:=by
 intro l
 induction l with
 | nil=>intro N _ _;exact Qw _
 | cons a l ih =>
  intro N B W
  rw [nodup_cons] at B
  have D:a∈N:=W a mem_cons_self
  have:=ih (N:=N.erase a) B.2 fun x J=>(List.mem_erase_of_ne (show x≠a from fun z=>B.1 (by rw [<- z];exact J))).mpr (W x (mem_cons_of_mem _ J))
  rw [List.length_erase_of_mem D] at this
  have h1:0 < N.length:=RF D
  rw [length_cons];omega
section
variable {NS:List Str}{nds nds':List Nd}{F F':Str->Option V}
theorem LeafG.few {m:Int}(G:LeafG NS m ps):ps.length<=NS.length:=by
 have:=ZaB G.nd (N:=NS) fun x z=>by obtain ⟨p,hp,rfl⟩:=mem_map.mp z;exact G.sub p hp
 rwa [length_map] at this
theorem LeafG.perm {m:Int}(G:LeafG NS m ps)(h:qs.Perm ps):LeafG NS m qs :=
 ⟨fun z=>G.ne (by rw [z] at h;exact (Ms h).symm),(h.map (·.1)).nodup_iff.mpr G.nd,fun p hp=>G.sub p (h.mem_iff.mp hp),fun p hp=>G.mrk p (h.mem_iff.mp hp)⟩
theorem LeafG.ok {m:Int}(N:ZZ NS)(G:LeafG NS m ps):Zer (.leaf m ps):=by
 cases ps with
 | nil=>exact absurd rfl G.ne
 | cons p pr =>
  have h1:=G.mrk p mem_cons_self
  have h2:=G.sub p mem_cons_self
  exact ⟨p,pr,rfl,h1,N.len _ h2,by rw [<- h1];exact N.lo _ h2⟩
theorem Zlk (v:V)(Z:x∈NS)(J:(ps.map (·.1)).Nodup)(hs:∀ p∈ps,p.1∈NS)(hm:∀ p∈ps,Zh p.1=Zh x):LeafG NS (Zh x) (Xi ps x v):=by
 have D:=ZdE ps x v
 have B:∀ p∈Xi ps x v,p.1∈ps.map (·.1)\/p.1=x:=fun p hp=>by
  have h1:p.1∈(Xi ps x v).map (·.1):=OE hp
  rw [D] at h1
  by_cases h:x∈ps.map (·.1)
  ·rw [if_pos h] at h1;exact .inl h1
  ·rw [if_neg h] at h1
   rcases mem_append.mp h1 with z | z
   ·exact .inl z
   ·exact .inr (mem_singleton.mp z)
 refine ⟨fun z=>?_,?_,fun p hp=>?_,fun p hp=>?_⟩
 ·rw [z] at D
  by_cases h:x∈ps.map (·.1)
  ·rw [if_pos h] at D;rw [<- D] at h;cases h
  ·rw [if_neg h] at D;simp at D
 ·rw [D]
  by_cases h:x∈ps.map (·.1)
  ·rw [if_pos h];exact J
  ·rw [if_neg h,nodup_append]
   exact ⟨J,by simp,fun a Y b hb e=>h (by rw [mem_singleton.mp hb] at e;rw [<- e];exact Y)⟩
 ·rcases B p hp with z | z
  ·obtain ⟨q,W,e⟩:=mem_map.mp z
   rw [<- e];exact hs q W
  ·rw [z];exact Z
 ·rcases B p hp with z | z
  ·obtain ⟨q,W,e⟩:=mem_map.mp z
   rw [<- e];exact hm q W
  ·rw [z]
def upF (F:Str->Option V)(x:Str)(v:V):Str->Option V:=fun y=>if y=x then some v else F y
theorem ZlG {d lev r:Nat}{m:Int}{ps qs:List (Str×V)}{z:Nat}(N:ZZ NS)(hx:x∈NS)(D:Yf x % 4 ^ lev=r)(W:nds[z]?=some (.leaf m qs))(Y:m=Zh x)(G:LeafG NS (Zh x) (Xi ps x v))(hp:qs.Perm (Xi ps x v))(Z:∀ y∈NS,Yf y % 4 ^ lev=r->F y=lk ps y):Tri NS nds (upF F x v) d lev r z:=by
 subst Y
 have h:TriE NS nds (upF F x v) lev r z:=by
  refine .inr ⟨Zh x,qs,W,G.perm hp,D,fun y J B=>?_⟩
  rw [Zgm hp G.nd,ZcS]
  unfold upF
  by_cases h:y=x
  ·rw [if_pos h,if_pos h]
  ·rw [if_neg h,if_neg h];exact Z y J B
 cases d with
 | zero=>exact h
 | succ d=>exact .inl h
theorem ZeQ {d lev r B:Nat}(N:ZZ NS)(h0:nds[0]?=some .bare)(hr:r < 4 ^ lev)(h:Tri NS nds F (d+1) lev r B)(Y:nds[B]?=some n)(Z:n≠.bare):
 (Yn B lev n).length=4/\∀ (i q:Nat),(Yn B lev n)[i]?=some q->Tri NS nds F d (lev+1) (r+i * 4 ^ lev) q:=by
 have wrapE:∀ {r' q:Nat},TriE NS nds F (lev+1) r' q->Tri NS nds F d (lev+1) r' q:=fun g=>by
  cases d with
  | zero=>exact g
  | succ d=>exact .inl g
 rcases h with h | ⟨qs,h1,h2,h3⟩
 ·rcases h with ⟨_,e,_⟩ | ⟨m,ps,e,G,hm,hF⟩
  ·rw [Y] at e;cases e;exact absurd rfl Z
  ·rw [Y] at e;cases e
   obtain ⟨p1,pr,e1,e2,e3,e4⟩:=G.ok N
   refine ⟨rfl,fun i q W=>?_⟩
   have hi:i < 4:=(Qg.mp W).1
   have D:(if i=Zu m lev then B else 0)=q:=by
    rcases i with _ | _ | _ | _ | i
    ·exact Qo W
    ·exact Qo W
    ·exact Qo W
    ·exact Qo W
    ·omega
   have hmm:m.toNat % 4 ^ (lev+1)=r+Zu m lev * 4 ^ lev:=by rw [Xw,hm,YE e4]
   by_cases z:i=Zu m lev
   ·rw [if_pos z] at D
    subst D
    exact wrapE (.inr ⟨m,ps,Y,G,by rw [hmm,z],fun y hy J=>hF y hy (YR hr J).1⟩)
   ·rw [if_neg z] at D
    subst D
    refine wrapE (.inl ⟨rfl,h0,fun y hy J=>?_⟩)
    rw [hF y hy (YR hr J).1]
    refine Zgl fun p hp e=>z ?_
    have:=(YR hr J).2
    rw [<- this,<- e]
    unfold Yf
    rw [G.mrk p hp,YE e4]
 ·rw [Y] at h1;cases h1
  exact ⟨h2,h3⟩
theorem ZeS {r z:Nat}(N:ZZ NS)(h:Tri NS nds F 0 5 r z)(J:nds[z]?=some n)(B:n≠.bare)(W:x∈NS)(D:Yf x % 4 ^ 5=r):n.hasM (Zh x)=true:=by
 rcases h with ⟨_,e,_⟩ | ⟨m,ps,e,G,hm,hF⟩
 ·rw [J] at e;cases e;exact absurd rfl B
 ·rw [J] at e;cases e
  refine decide_eq_true ?_
  obtain ⟨p1,pr,e1,e2,e3,e4⟩:=G.ok N
  have h1:Zh p1.1 < 1024:=N.hi _ (G.sub p1 (by rw [e1];exact mem_cons_self))
  have h2:=N.hi x W
  have h3:=N.lo x W
  rw [e2] at h1
  unfold Yf at D
  have Y:m.toNat % 1024=r:=hm
  have Z:(Zh x).toNat % 1024=r:=D
  rw [Mu (by omega)] at Y Z
  omega
theorem Zki {d lev r D num':Nat}{qs:List Nat}{x:Str}{v:V}(N:ZZ NS)(Y:r < 4 ^ lev)(hx:x∈NS)(hxr:Yf x % 4 ^ lev=r)(W:qs.length=4)(hq:∀(i q:Nat),qs[i]?=some q->Tri NS nds F d (lev+1) (r+i * 4 ^ lev) q)
 (e:NEx nds nds') (Z:Tri NS nds' F' d (lev+1) (r+Zu (Zh x) lev * 4 ^ lev) num') (hF:∀ y,y≠x->F' y=F y) (h:nds'[D]?=some (.fork (qs.set (Zu (Zh x) lev) num'))):Tri NS nds' F' (d+1) lev r D:=by
 refine .inr ⟨_,h,by rw [length_set,W],fun i q hi=>?_⟩
 have B:i < 4:=by rw [<- W];have:=(Qg.mp hi).1;rwa [length_set] at this
 rw [NV] at hi
 by_cases z:Zu (Zh x) lev=i
 ·rw [if_pos z,if_pos (by rw [W,z];exact B)] at hi
  cases hi
  rw [<- z]
  exact Z
 ·rw [if_neg z] at hi
  refine Tri.congr d (Xg Y B) (Tri.mono d (hq i q hi) e) fun y hy J=>hF y fun w=>z ?_
  rw [w] at J
  rw [YE (N.lo x hx)]
  exact (YR Y J).2
end
inductive PutR (x:Str)(v:V):List Nd->Nat->Nat->List Nd->Nat->Prop
 | leaf {nds:List Nd} {lev num:Nat} {n:Nd} {qs:List (Str×V)}:nds[num]?=some n->(num=0\/n.hasM (Zh x)=true)->qs.Perm (Xi n.pairs x v)->Ug qs->PutR x v nds lev num (nds++[.leaf (Zh x) qs]) nds.length
 | fork {nds nds1:List Nd} {lev num q1 num1:Nat} {n:Nd}:nds[num]?=some n->num≠0->n.hasM (Zh x)=false->(Yn num lev n)[Zu (Zh x) lev]?=some q1->PutR x v nds (lev+1) q1 nds1 num1->PutR x v nds lev num (nds1++[.fork ((Yn num lev n).set (Zu (Zh x) lev) num1)]) nds1.length
section
variable {P:Ql}{w:Qs}{K:Qa}{mg:Str->Option Qb}{base:Heap}{C Pl:Addr}{NS:List Str}
def Zal (K:Qa)(C Pl:Addr)(NS:List Str):Nat->Sp
 | 0=>fun _ _ _ _=>False
 | d+1=>fun vs H Q _=>∃ (st ln dt:Addr) (nds:List Nd) (tabs:List (Zj×V)) (num lev r:Nat) (x:Str) (v:V) (F:Str->Option V),vs=[.ref st,iN num,iN lev,.str x,v]/\StoreAt K C st ln dt H nds tabs/\nds[0]?=some .bare/\Tri NS nds F d lev r num/\r < 4 ^ lev/\lev+d=5/\x∈NS/\Yf x % 4 ^ lev=r/\nds.length+d+1<=100000/\LamAt H Pl YV XV /\
  ∀ (H':Hp) (nds':List Nd) (num':Nat),StoreAt K C st ln dt H' nds' tabs->NEx nds nds'->nds'.length<=nds.length+d+1->Tri NS nds' (upF F x v) d lev r num'->PutR x v nds lev num nds' num'->LamAt H' Pl YV XV->Kq [ln,Pl] H H'->TF H H'->Q (iN num') H'
abbrev nPi:List Str:=["self","number","level","name","value"]
theorem scPI:Zp ["self","number","level","name","value","node","pairs","parts","figure"] nPi (Zk c_Store_put_in):={}
theorem Ux :∀{d lev r B:Nat},Tri NS nds F d lev r B->∃ n,nds[B]?=some n/\(n=.bare->B=0):=by
 have e:∀ {lev r B:Nat},TriE NS nds F lev r B->∃ n,nds[B]?=some n/\(n=.bare->B=0):=fun h=>by
  rcases h with ⟨h1,h2,_⟩ | ⟨m,ps,h1,_⟩
  ·exact ⟨_,h2,fun _=>h1⟩
  ·exact ⟨_,h1,fun z=>by cases z⟩
 intro d lev r B h
 cases d with
 | zero=>exact e h
 | succ d =>
  rcases h with h | ⟨qs,h1,_⟩
  ·exact e h
  ·exact ⟨_,h1,fun z=>by cases z⟩
theorem Zlj {d lev r B:Nat}(W:nds[0]?=some .bare)(h:Tri NS nds F d lev r B)(D:nds[B]?=some n)(J:B=0\/n.hasM (Zh x)=true):
 (n.pairs.map (·.1)).Nodup/\(∀ p∈n.pairs,p.1∈NS)/\(∀ p∈n.pairs,Zh p.1=Zh x)/\(∀ y∈NS,Yf y % 4 ^ lev=r->F y=lk n.pairs y)/\n.pairs.length<=NS.length:=by
 have e:TriE NS nds F lev r B->(n.pairs.map (·.1)).Nodup/\(∀ p∈n.pairs,p.1∈NS)/\(∀ p∈n.pairs,Zh p.1=Zh x)/\(∀ y∈NS,Yf y % 4 ^ lev=r->F y=lk n.pairs y)/\n.pairs.length<=NS.length:=fun g=>by
  rcases g with ⟨h1,h2,h3⟩ | ⟨m,ps,h1,G,hm,Y⟩
  ·rw [D] at h2;cases h2
   exact ⟨nodup_nil,fun p hp=>(by cases hp),fun p hp=>(by cases hp),h3,Qw _⟩
  ·rw [D] at h1;cases h1
   rcases J with z | z
   ·rw [z,W] at D;cases D
   ·have Z:m=Zh x:=of_decide_eq_true z
    exact ⟨G.nd,G.sub,fun p hp=>by rw [G.mrk p hp,Z],Y,G.few⟩
 cases d with
 | zero=>exact e h
 | succ d =>
  rcases h with h | ⟨qs,h1,_⟩
  ·exact e h
  ·rw [D] at h1;cases h1
   rcases J with z | z
   ·rw [z,W] at D;cases D
   ·cases z
theorem ZmX {d k:Nat}(N:ZZ NS)(hk:2<=k)(F:Fun K "put_in" "Store.put_in" c_Store_put_in f fd)(T:Txt K mg)(TC:YY K C)(DH:Def P w K mg base 1 "has_mark" ["node","number"] (Vd K))(DR:Def P w K mg base 1 "pairs_in" ["node"] (Xx K))(DM:Def P w K mg base 1 "mark" ["name"] Ww)(DG:Def P w K mg base 1 "digit" ["number","level"] Wl)(DL:Def P w K mg base 2 "leaf_of" ["pairs"] (Vf K Pl YV))(DO:Def P w K mg base 1 "fork_of" ["parts"] (WK K))(DK:DefM P w K mg base 1 C "keep" ["self","node"] (Ve K C))(DF:DefM P w K mg base 2 C "fork_parts" ["self","number","level"] (ZhN K C))(DI:DefM P w K mg base k C "put_in" nPi (Zal K C Pl NS d)):FnOk P w K mg base ZJ (k+1) f fd nPi (Zal K C Pl NS (d+1)):=by
 refine F.ok scPI (fun cdv A outer s H vs Q E hr h=>?_)
 obtain ⟨st,ln,dt,nds,tabs,B,lev,r,x,v,Fm,rfl,S,h0,W,hrl,hlev,hx,hxr,hlen,hL,q⟩:=h
 obtain ⟨tz,hz⟩:=T.zero
 have Z:=hr.mono (show 1<=k by omega)
 have hr2:=hr.mono hk
 refine' ⟨?t,?h,?r⟩
 case h =>
  conv=>arg 2;whnf
  with_reducible refine' Ze ?a1 (Ze (Yi ?a2 (Ze ?c1 (Ze ?c2 (Zg ?c3))) ZV) (Ze ?a3 (Ze ?a4 (Ze ?a5 (Zg ?a6)))))
  case a1=>exact Zx (i:=5) scPI.nd rfl (Qy rfl) (Zo ZD (ZS (pv 0) rfl) (pv 1) (fun _ _=>rfl))
  case a2=>exact PW.pt (ZhF (ZP Yo (pv 1) (Xv rfl hz (v:=.int 0) ⟨_,rfl⟩) (ZH _)) (Zfn (Wu (ZA DH Z (Zb (pv 5) (Zb (ZA DM Z (Zb (pv 3) Za)) Za))))))
  case c1=>exact Zx (i:=6) scPI.nd rfl (Qy rfl) (Yk (UA rfl) rfl T.dict (by decide +kernel) (Zb (ZA DR Z (Zb (pv 5) Za)) Za))
  case c2=>exact ZaE (Ua hr) (pv 6) (pv 3) (pv 4) rfl
  case c3=>exact Zn (ZT DK TC.cl Z (pv 0) (Zb (ZA DL hr2 (Zb (Yk (ZbG rfl) rfl T.list (by decide +kernel) (Zb (ZoG Pc Rh PySem.F.type_dict_items Zku (pv 6)) Za)) Za)) Za))
  case a3=>exact Zx (i:=7) scPI.nd rfl (Qy rfl) (ZT DF TC.cl hr2 (pv 0) (Zb (pv 1) (Zb (pv 2) Za)))
  case a4=>exact Zx (i:=8) scPI.nd rfl (Qy rfl) (ZA DG Z (Zb (ZA DM Z (Zb (pv 3) Za)) (Zb (pv 2) Za)))
  case a5=>exact XH (ZT DI TC.cl hr (pv 0) (Zb (Zo ZD (pv 7) (pv 8) (fun _ _=>rfl)) (Zb (Zt Yu (pv 2) Zd) (Zb (pv 3) (Zb (pv 4) Za))))) (Zci (pv 7) (pv 8) VF)
  case a6=>exact Zn (ZT DK TC.cl Z (pv 0) (Zb (ZA DO Z (Zb (pv 7) Za)) Za))
 try dsimp only [ZR,Cx.nox]
 refine zs6 ?_
 intro zD zS zN5 zN4 zN3 zN2 zN1
 obtain ⟨n,hn,hbare⟩:=Ux W
 obtain ⟨as,a,nl,ha,hna⟩:=S.node hn
 obtain ⟨dx,ob⟩:=S.ob
 obtain ⟨tb,htb⟩:=hL.tbl
 have hst:st ∉ [Pl]:=fun z=>by rw [mem_singleton.mp z,htb] at ob;cases ob
 have hln:ln ∉ [Pl]:=fun z=>by rw [mem_singleton.mp z,htb] at nl;cases nl
 have hdt:dt ∉ [Pl]:=fun z=>by have e:=S.tb;rw [mem_singleton.mp z,htb] at e;cases e
 refine ⟨_,rfl,st,C,dx,_,_,rfl,ob,TC.cl,TC.nN,XF ln dt,_,rfl,ln,_,_,_,rfl,rfl,SqL.of nl,Zr (by rw [getElem?_map,ha];rfl),?_⟩
 refine ⟨_,rfl,rfl,_,rfl,?_⟩
 have ed:decide (iN B=V.int 0)=decide (B=0):=by
  by_cases z:B=0
  ·rw [decide_eq_true z,z];exact decide_eq_true rfl
  ·rw [decide_eq_false z]
   exact decide_eq_false fun y=>z (by have:=V.int.inj y;omega)
 rw [ed]
 rcases Classical.em (B=0\/n.hasM (Zh x)=true) with hc | hc
 ·obtain ⟨hnd,hsub,hmrk,hF,hfew⟩:=Zlj h0 W hn hc
  by_cases z0:B=0
  rw [decide_eq_true z0]
  have s1:Same H H:=Same.refl H
  refine Yg (Yg ?_)
  rotate_left
  rw [decide_eq_false z0]
  refine ZN ⟨_,rfl,_,rfl,x,rfl,N.len x hx,fun H1 s1=>⟨a,n,Zh x,rfl,hna.tf s1.tf,_,rfl,?_⟩⟩
  rw [hc.resolve_left z0]
  refine Yg ?_
  all_goals
   have S1:=S.keep s1
   refine ⟨_,rfl,a,n,rfl,hna.tf s1.tf,fun pt H2 s2 hpt=>?_⟩
   obtain ⟨o,ts,ept,hod,hlts,hp⟩:=hpt
   have hfw:=N.few
   refine ⟨pt,ts,n.pairs,rfl,⟨o,ept,hod⟩,hlts,by omega,hp,hnd,fun dd hd=>?_⟩
   have hd0:H dd=none:=by
    cases e:H dd with
    | none=>rfl
    | some o=>rw [s2 _ _ (s1 _ _ e)] at hd;cases hd
   have s3:=ZC hd (.dK (n.pairs.map fun p=>((QK p.1:Zj),p.2)))
   refine ⟨_,rfl,_,rfl,_,rfl,dd,_,rfl,DPut.k (k:=QK x) Zi (by rw [length_map];exact QT (show n.pairs.length<=64 by omega) (by decide)),?_⟩
   have s4:Same H (upd (upd H2 dd (.dK (n.pairs.map fun p=>((QK p.1:Zj),p.2)))) dd (.dK (Yz (n.pairs.map fun p=>((QK p.1:Zj),p.2)) (QK x) v))):=fun b o e=>by
    rw [Zl (Zs e hd0),Zl (Zs e hd0)];exact s2 _ _ (s1 _ _ e)
   have ed4:upd (upd H2 dd (.dK (n.pairs.map fun p=>((QK p.1:Zj),p.2)))) dd (.dK (Yz (n.pairs.map fun p=>((QK p.1:Zj),p.2)) (QK x) v)) dd=some (.dK ((Xi n.pairs x v).map gK)):=by
    rw [Zi,<- VD];rfl
   generalize upd (upd H2 dd (.dK (n.pairs.map fun p=>((QK p.1:Zj),p.2)))) dd (.dK (Yz (n.pairs.map fun p=>((QK p.1:Zj),p.2)) (QK x) v))=H4 at *
   have S4:=S.keep s4
   obtain ⟨dx4,ob4⟩:=S4.ob
   refine ⟨_,rfl,st,dx4,_,rfl,ob4,ZM ln dt (by decide +kernel) (by decide +kernel),_,rfl,.inr (.inr (.inl ⟨rfl,.inl ⟨_,ed4⟩⟩)),dd,_,rfl,rfl,ed4,fun vv hvv=>?_⟩
   have s5:=ZC hvv (.ext (ZbB vv dd))
   refine ⟨vv,dd,_,rfl,Zi,s5 _ _ ed4,fun l ts2 H5 hl5 s5b hlt2 hnone htup hlst=>?_⟩
   have s6:Same H H5:=(s4.trans s5).trans s5b
   have G:=Zlk (NS:=NS) v hx hnd hsub hmrk
   have hPT:PairT H5 ts2 (Xi n.pairs x v):=by
    refine ⟨by rw [hlt2,length_map],fun i b p e1 e2=>?_⟩
    exact htup i b (gK p) e1 (by rw [getElem?_map,e2];rfl)
   have hL5:=LamAt.same hL s6
   refine ⟨l,ts2,Xi n.pairs x v,rfl,hlst,hPT,G.ne,by have:=G.few;omega,fun p hp=>N.len _ (G.sub p hp),hL5,fun a6 H6 p1 pr g6 L6 perm6 sort6 node6=>?_⟩
   have tb5:H5 Pl=some (.tbl tb):=s6 _ _ htb
   have tf6:TF H5 H6:=g6.tf tb5
   have S6:=(S.keep s6).kq g6.kq tf6 hst hln hdt
   refine ⟨st,ln,dt,a6,nds,tabs,_,rfl,S6,node6,by omega,fun H7 S7 k7 tf7=>?_⟩
   have nl6:∃ xs,H6 ln=some (.lst xs):=by obtain ⟨as6,e6,_⟩:=S6.nl;exact ⟨_,e6⟩
   have hmk:Zh p1.1=Zh x:=(G.perm perm6).mrk p1 mem_cons_self
   rw [hmk] at S7
   refine q H7 _ nds.length S7 (NEx.app nds _) (by rw [length_append];show nds.length+1<=_;omega) ?_ (PutR.leaf hn hc perm6 sort6) (L6.kq k7 fun b hb=>by rw [mem_singleton.mp hb];exact nl6) ?_ ((s6.tf.trans tf6).trans tf7)
   ·exact ZlG (ps:=n.pairs) N hx hxr (by rw [getElem?_append_right (Qe _),QZ];rfl) rfl G perm6 hF
   ·exact (Same.kq s6).trans ((g6.kq.sub fun b hb=>by simp at hb ⊢;exact .inr hb).trans (k7.sub fun b hb=>by simp at hb ⊢;exact .inl hb))
 ·have z0:B≠0:=fun z=>hc (.inl z)
  have zm:n.hasM (Zh x)=false:=by
   cases e:n.hasM (Zh x) with
   | false=>rfl
   | true=>exact absurd (.inr e) hc
  have hnb:n≠.bare:=fun z=>z0 (hbare z)
  rw [decide_eq_false z0]
  refine ZN ⟨_,rfl,_,rfl,x,rfl,N.len x hx,fun H1 s1=>⟨a,n,Zh x,rfl,hna.tf s1.tf,_,rfl,?_⟩⟩
  rw [zm]
  refine ZN ?_
  cases d with
  | zero =>
   have h5:lev=5:=by omega
   subst h5
   exact absurd (.inr (ZeS N W hn hnb hx hxr)) hc
  | succ d =>
   obtain ⟨hf4,hft⟩:=ZeQ N h0 hrl W hn hnb
   have hok:Zer n:=by
    rcases W with W | ⟨qs,h1,_⟩
    ·rcases W with ⟨z,_⟩ | ⟨m,ps,h1,G,_⟩
     ·exact absurd z z0
     ·rw [hn] at h1;cases h1;exact G.ok N
    ·rw [hn] at h1;cases h1;exact trivial
   have S1:=S.keep s1
   obtain ⟨dx1,ob1⟩:=S1.ob
   refine ⟨_,rfl,st,dx1,_,rfl,ob1,ZM ln dt (by decide +kernel) (by decide +kernel),_,rfl,_,rfl,st,ln,dt,nds,tabs,B,lev,n,rfl,S1,hn,hnb,hok,by omega,fun rl H2 hrl1 s2 el=>?_⟩
   refine ⟨_,rfl,x,rfl,N.len x hx,fun H3 s3=>⟨_,rfl,Zh x,lev,rfl,N.lo x hx,by omega,?_⟩⟩
   have s13:Same H H3:=(s1.trans s2).trans s3
   have S3:=S.keep s13
   have D:H rl=none:=by
    cases e:H rl with
    | none=>rfl
    | some o=>rw [s1 _ _ e] at hrl1;cases hrl1
   have el3:=s3 _ _ el
   have hdl:Zu (Zh x) lev < (Yn B lev n).length:=by rw [hf4];exact Xe _ _
   have hq1:=getElem?_eq_getElem hdl
   generalize (Yn B lev n)[Zu (Zh x) lev]=q1 at hq1
   have hat:Xd ((Yn B lev n).map iN) (Zh x / 4 ^ lev % 4)=some (iN q1):=by rw [<- Wg];exact Zr (by rw [getElem?_map,hq1];rfl)
   obtain ⟨dx3,ob3⟩:=S3.ob
   refine ⟨_,rfl,st,dx3,_,rfl,ob3,ZM ln dt (by decide +kernel) (by decide +kernel),_,rfl,_,rfl,rl,_,_,_,rfl,rfl,SqL.of el3,hat,_,rfl,_,_,rfl,rfl,_,rfl,_,rfl,?_⟩
   refine ⟨st,ln,dt,nds,tabs,q1,lev+1,_,x,v,Fm,rfl,S3,h0,hft _ _ hq1,Xg hrl (Xe _ _),by omega,hx,by rw [Xw,hxr,YE (N.lo x hx)];rfl,by omega,LamAt.same hL s13,fun H5 Y J S5 ext5 len5 tri5 pr5 L5 kq5 tf5=>?_⟩
   have nrl:rl ∉ [ln,Pl]:=fun z=>by
    rcases mem_cons.mp z with z | z
    ·rw [z,nl] at D;cases D
    ·rw [mem_singleton.mp z,htb] at D;cases D
   have el5:=kq5 _ _ nrl el3
   have hix:WR ((Yn B lev n).map iN).length (Zh x / 4 ^ lev % 4)=some (Zu (Zh x) lev):=by
    rw [<- Wg,length_map]
    unfold WR
    rw [if_pos (by omega),if_pos (by omega)]
    rfl
   refine ⟨_,rfl,_,rfl,rl,_,_,_,rfl,rfl,el5,hix,?_⟩
   have tf6:=Zcv (o:=.lst (((Yn B lev n).map iN).set (Zu (Zh x) lev) (iN J))) el5
   have k6:Kq [rl] H5 (upd H5 rl (.lst (((Yn B lev n).map iN).set (Zu (Zh x) lev) (iN J)))):=ZbZ
   have nst:st ∉ [rl]:=fun z=>by rw [<- mem_singleton.mp z,ob] at D;cases D
   have nln:ln ∉ [rl]:=fun z=>by rw [<- mem_singleton.mp z,nl] at D;cases D
   have ndt:dt ∉ [rl]:=fun z=>by rw [<- mem_singleton.mp z,S.tb] at D;cases D
   have S6:=S5.kq k6 tf6 nst nln ndt
   have el6:upd H5 rl (.lst (((Yn B lev n).map iN).set (Zu (Zh x) lev) (iN J))) rl=some (.lst (((Yn B lev n).set (Zu (Zh x) lev) J).map iN)):=by rw [Zi,List.map_set]
   have L6:=L5.kq k6 fun b hb=>by rw [mem_singleton.mp hb];exact ⟨_,el5⟩
   have kh:Kq [ln,Pl] H (upd H5 rl (.lst (((Yn B lev n).map iN).set (Zu (Zh x) lev) (iN J)))):=fun b o nb e=>by
    rw [Zl (Zs e D)];exact kq5 _ _ nb (s13 _ _ e)
   generalize upd H5 rl (.lst (((Yn B lev n).map iN).set (Zu (Zh x) lev) (iN J)))=H6 at *
   obtain ⟨dx6,ob6⟩:=S6.ob
   refine ⟨_,rfl,st,dx6,_,rfl,ob6,ZM ln dt (by decide +kernel) (by decide +kernel),_,rfl,rl,(Yn B lev n).set (Zu (Zh x) lev) J,rfl,el6,by rw [length_set,hf4],fun a7 H7 s7 node7=>?_⟩
   have S7:=S6.keep s7
   refine ⟨st,ln,dt,a7,Y,tabs,_,rfl,S7,node7,by omega,fun H8 S8 k8 tf8=>?_⟩
   have nl7:∃ xs,H7 ln=some (.lst xs):=by obtain ⟨as7,e7,_⟩:=S7.nl;exact ⟨_,e7⟩
   refine q H8 _ Y.length S8 (ext5.trans (NEx.app Y _)) (by rw [length_append];show Y.length+1<=_;omega) ?_ (PutR.fork hn z0 zm hq1 pr5) ((LamAt.same L6 s7).kq k8 fun b hb=>by rw [mem_singleton.mp hb];exact nl7) ?_ ((((s13.tf.trans tf5).trans tf6).trans s7.tf).trans tf8)
   ·refine Zki (v:=v) (num':=J) (F:=Fm) (qs:=Yn B lev n) N hrl hx hxr hf4 hft (ext5.trans (NEx.app Y _)) (Tri.mono d tri5 (NEx.app Y _)) (fun y hy=>if_neg hy) ?_
    rw [getElem?_append_right (Qe _),QZ];rfl
   ·exact (kh.trans (Same.kq s7)).trans (k8.sub fun b hb=>by simp at hb ⊢;exact .inl hb)
end
section
variable {P:Ql}{w:Qs}{K:Qa}{mg:Str->Option Qb}{base:Heap}{C Pl:Addr}{NS:List Str}
theorem Zgp (N:ZZ NS)(F:Fun K "put_in" "Store.put_in" c_Store_put_in f fd)(T:Txt K mg)(D:YY K C)(B:Def P w K mg base 1 "has_mark" ["node","number"] (Vd K))(W:Def P w K mg base 1 "pairs_in" ["node"] (Xx K))(J:Def P w K mg base 1 "mark" ["name"] Ww)(DG:Def P w K mg base 1 "digit" ["number","level"] Wl)(DL:Def P w K mg base 2 "leaf_of" ["pairs"] (Vf K Pl YV))(z:Def P w K mg base 1 "fork_of" ["parts"] (WK K))(Z:DefM P w K mg base 1 C "keep" ["self","node"] (Ve K C))(Y:DefM P w K mg base 2 C "fork_parts" ["self","number","level"] (ZhN K C))(b:Binds K fd nPi [])(mt:Vi K C "put_in" f):∀ d,FnOk P w K mg base ZJ (2+d) f fd nPi (Zal K C Pl NS d)
 | 0=>F.ok scPI (len:=(fun _ _ _ _ h=>h.elim)) (fun _ _ _ _ _ _ _ _ _ h=>h.elim)
 | d+1=>ZmX N (Jp 2 d) F T D B W J DG DL z Z Y ⟨f,fd,Zgp N F T D B W J DG DL z Z Y b mt d,b,mt⟩
inductive ZcW (vs:List V)(H:Hp)(Q:VK)(w_3:XK):Prop
 | mk (u v:_):vs=[u,v]->scal u v=true->Q (.bl (decide (u=v))) H->ZcW vs H Q w_3
theorem scAl:Zp ["one","other"] ["one","other"] (Zk s_alike):={}
theorem Zkz (F:Fun K "alike" "alike" s_alike f fd):FnOk P w K mg base ZJ 1 f fd ["one","other"] ZcW:=by
 refine F.ok scAl (fun z A outer s H vs Q E D h=>?_)
 obtain ⟨u,v,rfl,B,q⟩:=h
 exact ⟨_,Zg (Zn (YK Yo (pv 0) (pv 1) (ZH _))),⟨_,rfl,_,rfl,B,q⟩⟩
def ValV:V->Prop
 | .int _=>True
 | .str _=>True
 | _=>False
theorem ValV.scal (h:ValV v)(B:∀ u,o=some u->ValV u):scal (o.getD .non) v=true:=by
 cases o with
 | none=>cases v<;>first | rfl | exact h.elim
 | some u =>
  have z:=B u rfl
  cases u<;>first | exact z.elim | (cases v<;>first | rfl | exact h.elim)
theorem ValV.ne (h:ValV v):v≠.non:=fun z=>by subst z;exact h
theorem Uf {t:Nat}(N:ZZ NS)(h:Tri NS nds F 5 0 0 t)(J:x∈NS):
 ∃ B e n,Xb nds (Zh x) 6 0 t=some (B++[e])/\nds[e]?=some n/\n.pairs.length<=1000/\(n.pairs.map (·.1)).Nodup/\lk n.pairs x=F x:=by
 obtain ⟨B,e,n,e1,W,D⟩:=ZnA N 5 (by decide) h J (by rw [Ja,Ju])
 refine ⟨B,e,n,e1,W,?_⟩
 have Y:=N.few
 rcases D with ⟨_,rfl,z⟩ | ⟨m,ps,rfl,G,z⟩
 ·exact ⟨Qw _,nodup_nil,by rw [z];rfl⟩
 ·exact ⟨by have:=G.few;show ps.length<=1000;omega,G.nd,z.symm⟩
inductive ZhR (K:Qa)(C Pl:Addr)(NS:List Str)(vs:List V)(H:Hp)(Q:VK)(w_3:XK):Prop
 | mk (st ln dt:Addr) (nds:List Nd) (tabs:List (Zj×V)) (t:Nat) (x:Str) (v:V) (F:Str->Option V):vs=[.ref st,iN t,.str x,v]->StoreAt K C st ln dt H nds tabs->nds[0]?=some .bare->(ZG tabs (QD (t:Int))).isSome=true->Tri NS nds F 5 0 0 t->x∈NS->ValV v->(∀ u,F x=some u->ValV u)->nds.length+6<=100000->tabs.length<=100000->LamAt H Pl YV XV->(∀ (H':Hp) (nds':List Nd) (tabs':List (Zj×V)) (t':Nat),StoreAt K C st ln dt H' nds' tabs'->NEx nds nds'->nds'.length<=nds.length+6->tabs'.length<=tabs.length+1->(∀ k,(ZG tabs k).isSome=true->(ZG tabs' k).isSome=true)->(ZG tabs' (QD (t':Int))).isSome=true->Tri NS nds' (upF F x v) 5 0 0 t'->((F x=some v/\t'=t/\nds'=nds/\tabs'=tabs)\/(F x≠some v/\PutR x v nds 0 t nds' t'/\tabs'=Yz tabs (QD (t':Int)) (.bl true)))->LamAt H' Pl YV XV->Kq [ln,dt,Pl] H H'->TF H H'->Q (iN t') H')->ZhR K C Pl NS vs H Q w_3
theorem scPu:Zp ["self","table","name","value"] ["self","table","name","value"] (Zk c_Store_put):={}
theorem Zoz (N:ZZ NS)(F:Fun K "put" "Store.put" c_Store_put f fd)(TC:YY K C)(DA:Def P w K mg base 1 "alike" ["one","other"] ZcW)(DLk:DefM P w K mg base 3 C "looked" ["self","table","name"] (WL K C))(DAs:DefM P w K mg base 1 C "as_table" ["self","number"] (Zeh K C))(DI:DefM P w K mg base 8 C "put_in" nPi (Zal K C Pl NS 6)):FnOk P w K mg base ZJ 9 f fd ["self","table","name","value"] (ZhR K C Pl NS):=by
 refine F.ok scPu (fun cdv A outer s H vs Q E hr h=>?_)
 obtain ⟨st,ln,dt,nds,B,t,x,v,Fm,rfl,S,h0,Y,J,hx,hv,hFv,hlen,htl,hL,q⟩:=h
 have hr1:=hr.mono (show 1<=8 by decide)
 have hr3:=hr.mono (show 3<=8 by decide)
 refine' ⟨?t,?h,?r⟩
 case h =>
  conv=>arg 2;whnf
  with_reducible refine' Ze (Yi ?a1 (Zg ?a2) ZV) (Zg ?a3)
  case a1=>exact Wu (ZA DA hr1 (Zb (ZT DLk TC.cl hr3 (pv 0) (Zb (pv 1) (Zb (pv 2) Za))) (Zb (pv 3) Za)))
  case a2=>exact Zn (pv 1)
  case a3=>exact Zn (ZT DAs TC.cl hr1 (pv 0) (Zb (ZT DI TC.cl hr (pv 0) (Zb (pv 1) (Zb Zd (Zb (pv 2) (Zb (pv 3) Za))))) Za))
 try dsimp only [ZR,Cx.nox]
 refine UI ?_
 intro zD zS zN1
 obtain ⟨dx,ob⟩:=S.ob
 obtain ⟨ws,e,n,e1,e2,e3,e4,e5⟩:=Uf N J hx
 refine ⟨_,rfl,st,dx,_,rfl,ob,ZM ln dt (by decide +kernel) (by decide +kernel),_,rfl,_,rfl,st,ln,dt,nds,B,t,x,6,ws,e,n,rfl,S,Y,N.len x hx,N.lo x hx,by decide,e1,e2,e3,e4,fun H1 s1=>?_⟩
 rw [e5]
 refine ⟨_,rfl,_,_,rfl,hv.scal hFv,_,rfl,?_⟩
 have S1:=S.keep s1
 have hL1:=LamAt.same hL s1
 by_cases D:(Fm x).getD .non=v
 ·rw [decide_eq_true D]
  refine Yg ⟨_,rfl,q H1 nds B t S1 (NEx.refl _) (by omega) (by omega) (fun _ h=>h) Y (Tri.congr 5 (by decide) J fun y _ _=>?_) (.inl ⟨?_,rfl,rfl,rfl⟩) hL1 (Same.kq s1) s1.tf⟩
  rotate_left
  ·cases eF:Fm x with
   | none=>rw [eF] at D;exact absurd D.symm hv.ne
   | some u=>rw [eF] at D;exact congrArg some D
  unfold upF
  by_cases z:y=x
  ·rw [if_pos z,z]
   cases eF:Fm x with
   | none=>rw [eF] at D;exact absurd D.symm hv.ne
   | some u=>rw [eF] at D;exact congrArg some D.symm
  ·rw [if_neg z]
 ·rw [decide_eq_false D]
  obtain ⟨dx1,ob1⟩:=S1.ob
  refine ZN ⟨_,rfl,st,dx1,_,rfl,ob1,ZM ln dt (by decide +kernel) (by decide +kernel),_,rfl,st,dx1,_,rfl,ob1,ZM ln dt (by decide +kernel) (by decide +kernel),_,rfl,_,rfl,_,rfl,?_⟩
  refine ⟨st,ln,dt,nds,B,t,0,0,x,v,Fm,rfl,S1,h0,J,by decide,rfl,hx,by rw [Ja,Ju],hlen,hL1,fun H2 Z W S2 ext2 len2 tri2 pr2 L2' kq2 tf2=>?_⟩
  refine ⟨st,ln,dt,Z,B,W,rfl,S2,by omega,fun H3 S3 k3 tf3=>?_⟩
  obtain ⟨tb,htb⟩:=L2'.tbl
  refine q H3 Z _ W S3 ext2 len2 (Wb _ _ _) (fun k hk=>?_) (by rw [Uy,if_pos rfl];rfl) tri2 (.inr ⟨fun z=>D (by rw [z];rfl),pr2,rfl⟩) ?_ ?_ ((s1.tf.trans tf2).trans tf3)
  ·rw [Uy]
   by_cases z:k=QD (W:Int)
   ·rw [if_pos z];rfl
   ·rw [if_neg z];exact hk
  ·have hdl:∀ b∈[dt],∃ xs,H2 b=some (.dK xs):=fun b hb=>by rw [mem_singleton.mp hb];exact ⟨_,S2.tb⟩
   rcases L2' with h | ⟨c,h,h2⟩
   ·exact .inl (k3 _ _ (fun z=>by obtain ⟨_,e⟩:=hdl _ z;rw [h] at e;cases e) h)
   ·exact .inr ⟨c,k3 _ _ (fun z=>by obtain ⟨_,e⟩:=hdl _ z;rw [h] at e;cases e) h,k3 _ _ (fun z=>by obtain ⟨_,e⟩:=hdl _ z;rw [h2] at e;cases e) h2⟩
  ·exact ((Same.kq s1).trans (kq2.sub fun b hb=>by simp at hb ⊢;rcases hb with z | z;exact .inl z;exact .inr (.inr z))).trans (k3.sub fun b hb=>by simp at hb ⊢;exact .inr (.inl hb))
end
section
variable {NS:List Str}{nds nds':List Nd}{F F':Str->Option V}
def VY (F:Str->Option V)(x:Str):Str->Option V:=fun y=>if y=x then none else F y
def YN (ps:List (Str×V))(x:Str):List (Str×V):=ps.filter fun p=>!decide (p.1=x)
theorem Zat (ps:List (Str×V))(x y:Str):lk (YN ps x) y=if y=x then none else lk ps y:=by
 induction ps with
 | nil => by_cases h:y=x
          · rw [if_pos h];rfl
          · rw [if_neg h];rfl
 | cons p ps ih =>
   unfold YN at ih ⊢
   rw [filter_cons]
   by_cases hp:p.1=x
   · rw [decide_eq_true hp]
     show lk (ps.filter fun p=>!decide (p.1=x)) y=_
     rw [ih,Wh]
     by_cases h:y=x
     · rw [if_pos h,if_pos h]
     · rw [if_neg h,if_neg h,if_neg fun z=>h (by rw [<- z,hp])]
   · rw [decide_eq_false hp]
     show lk (p::ps.filter fun p=>!decide (p.1=x)) y=_
     rw [Wh,ih,Wh]
     by_cases h:y=x
     · rw [if_pos h,if_pos h,if_neg fun z=>hp (by rw [z,h])]
     · rw [if_neg h,if_neg h]
theorem LeafG.but {m:Int}(G:LeafG NS m ps)(h:YN ps x≠[]):LeafG NS m (YN ps x):=by
 have z:(YN ps x).Sublist ps:=Tu
 exact ⟨h,G.nd.sublist (z.map (·.1)),fun p hp=>G.sub p (z.subset hp),fun p hp=>G.mrk p (z.subset hp)⟩
theorem ZdO {d lev r z:Nat}(h:TriE NS nds F lev r z):Tri NS nds F d lev r z:=by
 cases d with
 | zero=>exact h
 | succ d=>exact .inl h
theorem ZjL {d lev r z:Nat}(h:Tri NS nds F d lev r z)(Y:nds[z]?=some n)(Z:x∈NS)(B:Yf x % 4 ^ lev=r)(D:F x=some v0):
 (∃ ps,n=.leaf (Zh x) ps/\LeafG NS (Zh x) ps/\∀ y∈NS,Yf y % 4 ^ lev=r->F y=lk ps y)\/∃ qs d',d=d'+1/\n=.fork qs/\qs.length=4/\∀ i q,qs[i]?=some q->Tri NS nds F d' (lev+1) (r+i * 4 ^ lev) q:=by
 have e:TriE NS nds F lev r z->∃ ps,n=.leaf (Zh x) ps/\LeafG NS (Zh x) ps/\∀ y∈NS,Yf y % 4 ^ lev=r->F y=lk ps y:=fun g=>by
  rcases g with ⟨_,_,J⟩ | ⟨m,ps,h1,G,_,W⟩
  ·rw [J x Z B] at D;cases D
  ·rw [Y] at h1;cases h1
   have hm:Zh x=m:=by
    rw [W x Z B] at D
    exact G.mrk _ ((YC G.nd).mp D)
   subst hm
   exact ⟨ps,rfl,G,W⟩
 cases d with
 | zero=>exact .inl (e h)
 | succ d =>
  rcases h with h | ⟨qs,h1,h2,J⟩
  ·exact .inl (e h)
  ·rw [Y] at h1;cases h1
   exact .inr ⟨qs,d,rfl,rfl,h2,J⟩
theorem ZlH {lev r z:Nat}(d:Nat)(D:Yf x % 4 ^ lev=r)(W:nds[z]?=some (.leaf (Zh x) qs))(G:LeafG NS (Zh x) (YN ps x))(hp:qs.Perm (YN ps x))(Y:∀ y∈NS,Yf y % 4 ^ lev=r->F y=lk ps y):Tri NS nds (VY F x) d lev r z:=by
 refine ZdO (.inr ⟨Zh x,qs,W,G.perm hp,D,fun y J B=>?_⟩)
 rw [Zgm hp G.nd,Zat]
 unfold VY
 by_cases h:y=x
 ·rw [if_pos h,if_pos h]
 ·rw [if_neg h,if_neg h];exact Y y J B
theorem ZlF {lev r:Nat}(d:Nat)(B:nds[0]?=some .bare)(W:YN ps x=[])(J:∀ y∈NS,Yf y % 4 ^ lev=r->F y=lk ps y):Tri NS nds (VY F x) d lev r 0:=by
 refine ZdO (.inl ⟨rfl,B,fun y D z=>?_⟩)
 have:=Zat ps x y
 rw [W,ZiM] at this
 unfold VY
 by_cases h:y=x
 ·rw [if_pos h]
 ·rw [if_neg h] at this ⊢;rw [J y D z];exact this.symm
theorem Zjd {d lev r num':Nat}{qs:List Nat}{x:Str}(N:ZZ NS)(W:r < 4 ^ lev)(Z:x∈NS)(hxr:Yf x % 4 ^ lev=r)(J:qs.length=4)(hq:∀(i q:Nat),qs[i]?=some q->Tri NS nds F d (lev+1) (r+i * 4 ^ lev) q)
 (e:NEx nds nds') (Y:Tri NS nds' F' d (lev+1) (r+Zu (Zh x) lev * 4 ^ lev) num') (hF:∀ y,y≠x->F' y=F y) (i q:Nat) (hi:(qs.set (Zu (Zh x) lev) num')[i]?=some q):Tri NS nds' F' d (lev+1) (r+i * 4 ^ lev) q:=by
 have B:i < 4:=by rw [<- J];have:=(Qg.mp hi).1;rwa [length_set] at this
 rw [NV] at hi
 by_cases z:Zu (Zh x) lev=i
 ·rw [if_pos z,if_pos (by rw [J,z];exact B)] at hi
  cases hi
  rw [<- z]
  exact Y
 ·rw [if_neg z] at hi
  refine Tri.congr d (Xg W B) (Tri.mono d (hq i q hi) e) fun y hy D=>hF y fun w=>z ?_
  rw [w] at D
  rw [YE (N.lo x Z)]
  exact (YR W D).2
theorem ZbR {qs:List Nat}{q:Nat}(h:(qs.filter fun p=>!decide (p=0))=[q]):∃ i:Nat,qs[i]?=some q/\q≠0/\∀(j p:Nat),qs[j]?=some p->j≠i->p=0:=by
 induction qs with
 | nil=>cases h
 | cons a qs ih =>
  rw [filter_cons] at h
  by_cases D:a=0
  ·rw [decide_eq_true D] at h
   obtain ⟨i,h1,h2,W⟩:=ih h
   refine ⟨i+1,h1,h2,fun j p hj B=>?_⟩
   cases j with
   | zero=>cases hj;exact D
   | succ j=>exact W j p hj fun z=>B (by rw [z])
  ·rw [decide_eq_false D] at h
   have h':a::(qs.filter fun p=>!decide (p=0))=[q]:=h
   obtain ⟨e1,J⟩:=JT h'
   refine ⟨0,by rw [e1];rfl,by rw [<- e1];exact D,fun j p hj B=>?_⟩
   cases j with
   | zero=>exact absurd rfl B
   | succ j =>
    have hp:p∈qs:=mem_of_getElem? hj
    by_cases z:p=0
    ·exact z
    ·have:p∈qs.filter fun p=>!decide (p=0):=mem_filter.mpr ⟨hp,by rw [decide_eq_false z];rfl⟩
     rw [J] at this;cases this
theorem Zpm {d lev r q:Nat}{qs:List Nat}{m:Int}{ps:List (Str×V)}(N:ZZ NS)(h0:nds[0]?=some .bare)(hr:r < 4 ^ lev)(hl:qs.length=4)(hq:∀(i q:Nat),qs[i]?=some q->Tri NS nds F d (lev+1) (r+i * 4 ^ lev) q)
 (h1:(qs.filter fun p=>!decide (p=0))=[q]) (hn:nds[q]?=some (.leaf m ps)):Tri NS nds F (d+1) lev r q:=by
 obtain ⟨i,hi,hq0,J⟩:=ZbR h1
 have D:TriE NS nds F (lev+1) (r+i * 4 ^ lev) q:=by
  have:=hq i q hi
  cases d with
  | zero=>exact this
  | succ d =>
   rcases this with h | ⟨qs',h,_⟩
   ·exact h
   ·rw [hn] at h;cases h
 rcases D with ⟨z,_⟩ | ⟨m',Y,e,G,hm,hF⟩
 ·exact absurd z hq0
 ·rw [hn] at e;cases e
  obtain ⟨p1,pr,e1,e2,e3,e4⟩:=G.ok N
  obtain ⟨hm1,Z⟩:=YR hr hm
  refine .inl (.inr ⟨m,ps,hn,G,hm1,fun y W hry=>?_⟩)
  have hj:Zu (Zh y) lev < qs.length:=by rw [hl];exact Xe _ _
  have B:Yf y % 4 ^ (lev+1)=r+Zu (Zh y) lev * 4 ^ lev:=by rw [Xw,hry,YE (N.lo y W)];rfl
  by_cases z:Zu (Zh y) lev=i
  ·rw [z] at B;exact hF y W B
  ·have hz:=J _ _ (getElem?_eq_getElem hj) z
   have ht:=hq _ _ (getElem?_eq_getElem hj)
   rw [hz] at ht
   have hE:TriE NS nds F (lev+1) (r+Zu (Zh y) lev * 4 ^ lev) 0:=by
    cases d with
    | zero=>exact ht
    | succ d =>
     rcases ht with h | ⟨qs',h,_⟩
     ·exact h
     ·rw [h0] at h;cases h
   rcases hE with ⟨_,_,h3⟩ | ⟨m',Y,e,_⟩
   ·rw [h3 y W B]
    refine (Zgl fun p hp e=>z ?_).symm
    rw [YE (N.lo y W),<- Z,<- e,G.mrk p hp]
   ·rw [h0] at e;cases e
theorem Zbs {d lev r z:Nat}(D:nds[z]?=some (.fork qs))(B:qs.length=4)(J:∀(i q:Nat),qs[i]?=some q->Tri NS nds F d (lev+1) (r+i * 4 ^ lev) q):Tri NS nds F (d+1) lev r z:=.inr ⟨qs,D,B,J⟩
end
theorem ZmA {K:Qa}(z:X.K=K):IxR X (rIxT K):=by subst z;exact ZO
inductive TakR (x:Str):List Nd->Nat->Nat->List Nd->Nat->Prop
 | gone {nds:List Nd} {lev num:Nat} {ps:List (Str×V)}:nds[num]?=some (.leaf (Zh x) ps)->YN ps x=[]->TakR x nds lev num nds 0
 | less {nds:List Nd} {lev num:Nat} {ps qs:List (Str×V)}:nds[num]?=some (.leaf (Zh x) ps)->YN ps x≠[]->qs.Perm (YN ps x)->Ug qs->TakR x nds lev num (nds++[.leaf (Zh x) qs]) nds.length
 | up {nds nds1:List Nd} {lev num q1 num1 q:Nat} {qs:List Nat} {m:Int} {ps:List (Str×V)}:nds[num]?=some (.fork qs)->qs[Zu (Zh x) lev]?=some q1->TakR x nds (lev+1) q1 nds1 num1->((qs.set (Zu (Zh x) lev) num1).filter fun p=>!decide (p=0))=[q]->nds1[q]?=some (.leaf m ps)->TakR x nds lev num nds1 q
 | fork {nds nds1:List Nd} {lev num q1 num1:Nat} {qs:List Nat}:nds[num]?=some (.fork qs)->qs[Zu (Zh x) lev]?=some q1->TakR x nds (lev+1) q1 nds1 num1->(∀ (q:Nat) (m:Int) (ps:List (Str×V)),((qs.set (Zu (Zh x) lev) num1).filter fun p=>!decide (p=0))=[q]->nds1[q]?≠some (.leaf m ps))->TakR x nds lev num (nds1++[.fork (qs.set (Zu (Zh x) lev) num1)]) nds1.length
section
variable {P:Ql}{w:Qs}{K:Qa}{mg:Str->Option Qb}{base:Heap}{C Pl:Addr}{NS:List Str}
def Zct (K:Qa)(C Pl:Addr)(NS:List Str):Nat->Sp
 | 0=>fun _ _ _ _=>False
 | d+1=>fun vs H Q _=>∃ (st ln dt:Addr) (nds:List Nd) (tabs:List (Zj×V)) (num lev r:Nat) (x:Str) (v0:V) (F:Str->Option V),vs=[.ref st,iN num,iN lev,.str x]/\StoreAt K C st ln dt H nds tabs/\nds[0]?=some .bare/\Tri NS nds F d lev r num/\r < 4 ^ lev/\lev+d=5/\x∈NS/\Yf x % 4 ^ lev=r/\F x=some v0/\nds.length+d+1<=100000/\LamAt H Pl YV XV /\
  ∀ (H':Hp) (nds':List Nd) (num':Nat),StoreAt K C st ln dt H' nds' tabs->NEx nds nds'->nds'.length<=nds.length+d+1->Tri NS nds' (VY F x) d lev r num'->TakR x nds lev num nds' num'->LamAt H' Pl YV XV->Kq [ln,Pl] H H'->TF H H'->Q (iN num') H'
abbrev nTk:List Str:=["self","number","level","name"]
abbrev nTa:List Str:=["self","number","level","name","node","left","parts","figure","filled"]
theorem scTk:Zp nTa nTk (Zk c_Store_taken_from):={}
theorem ZoB {d k:Nat}(N:ZZ NS)(hk:2<=k)(F:Fun K "taken_from" "Store.taken_from" c_Store_taken_from f fd)(T:Txt K mg)(TC:YY K C)(DH:Def P w K mg base 1 "has_mark" ["node","number"] (Vd K))(DP:Def P w K mg base 1 "parts_in" ["node"] (Wm K))(DR:Def P w K mg base 1 "pairs_in" ["node"] (Xx K))(DM:Def P w K mg base 1 "mark" ["name"] Ww)(DG:Def P w K mg base 1 "digit" ["number","level"] Wl)(DL:Def P w K mg base 2 "leaf_of" ["pairs"] (Vf K Pl YV))(DO:Def P w K mg base 1 "fork_of" ["parts"] (WK K))(DK:DefM P w K mg base 1 C "keep" ["self","node"] (Ve K C))(DI:DefM P w K mg base k C "taken_from" nTk (Zct K C Pl NS d)):FnOk P w K mg base ZJ (k+1) f fd nTk (Zct K C Pl NS (d+1)):=by
 refine F.ok scTk (fun cdv A outer s H vs Q E hr h=>?_)
 obtain ⟨st,ln,dt,nds,tabs,num,lev,r,x,v0,Fm,rfl,S,h0,htri,hrl,hlev,hx,hxr,hFx,hlen,hL,q⟩:=h
 obtain ⟨tz,hz⟩:=T.zero
 have hr1:=hr.mono (show 1<=k by omega)
 have hr2:=hr.mono hk
 refine' ⟨?t,?h,?r⟩
 case h =>
  conv=>arg 2;whnf
  with_reducible refine' Ze ?a1 (Ze (Yi ?a2 (Ze ?c1 (Zg ?c2)) ZV) (Ze ?a3 (Ze ?a4 (Ze ?a5 (Ze ?a6 (Ze (Yi ?a7 (Zg ?a8) ZV) (Zg ?a9)))))))
  case a1=>exact Zx (i:=4) scTk.nd rfl (Qy rfl) (Zo ZD (ZS (pv 0) rfl) (pv 1) (fun _ _=>rfl))
  case a2=>exact Wu (ZA DH hr1 (Zb (pv 4) (Zb (ZA DM hr1 (Zb (pv 3) Za)) Za)))
  case c1=>exact UQ (i:=5) (CompOk.of nTa c_Store_taken_from rfl rfl (by decide +kernel)) rfl scTk.nd rfl (Qy rfl) (Zfi (ZA DR hr1 (Zb (pv 4) Za))) (fun _ _ _ _ _=>ZP Zce (Zo (ZmA (K:=K) rfl) (pv 9) Zd (fun _ _=>rfl)) (pv 3) (ZH _)) (fun _ _ _ _ _=>pv 9) rfl
  case c2=>exact Zn (Uu (VC (pv 5) (fun _=>rfl)) (ZT DK TC.cl hr1 (pv 0) (Zb (ZA DL hr2 (Zb (pv 5) Za)) Za)) (Xv rfl hz (v:=.int 0) ⟨_,rfl⟩))
  case a3=>exact Zx (i:=6) scTk.nd rfl (Qy rfl) (Yk Um rfl T.list (by decide +kernel) (Zb (ZA DP hr1 (Zb (pv 4) Za)) Za))
  case a4=>exact Zx (i:=7) scTk.nd rfl (Qy rfl) (ZA DG hr1 (Zb (ZA DM hr1 (Zb (pv 3) Za)) (Zb (pv 2) Za)))
  case a5=>exact XH (ZT DI TC.cl hr (pv 0) (Zb (Zo ZD (pv 6) (pv 7) (fun _ _=>rfl)) (Zb (Zt Yu (pv 2) Zd) (Zb (pv 3) Za)))) (Zci (pv 6) (pv 7) VF)
  case a6=>exact UQ (i:=8) (CompOk.of nTa c_Store_taken_from rfl rfl (by decide +kernel)) rfl scTk.nd rfl (Qy rfl) (XT (pv 6)) (fun _ _ _ _ _=>ZP Zce (pv 9) (Xv rfl hz (v:=.int 0) ⟨_,rfl⟩) (ZH _)) (fun _ _ _ _ _=>pv 9) rfl
  case a7=>exact PW.pt (Zjm (ZP Yo (Zz ZL rfl T.len QM (Zb (pv 8) Za)) Zd (ZH _)) (Zgv (VC (ZA DR hr1 (Zb (Zo ZD (ZS (pv 0) rfl) (Zo ZD (pv 8) Zd (fun _ _=>rfl)) (fun _ _=>rfl)) Za)) (fun _=>rfl))))
  case a8=>exact Zn (Zo ZD (pv 8) Zd (fun _ _=>rfl))
  case a9=>exact Zn (ZT DK TC.cl hr1 (pv 0) (Zb (ZA DO hr1 (Zb (pv 6) Za)) Za))
 try dsimp only [ZR,Cx.nox]
 refine zs8 ?_
 intro zD zS zN7 zN6 zN5 zN4 zN3 zN2 zN1
 obtain ⟨n,hn,hbare⟩:=Ux htri
 obtain ⟨as,a,nl,ha,hna⟩:=S.node hn
 obtain ⟨dx,ob⟩:=S.ob
 obtain ⟨tb,htb⟩:=hL.tbl
 have hst:st ∉ [Pl]:=fun z=>by rw [mem_singleton.mp z,htb] at ob;cases ob
 have hln:ln ∉ [Pl]:=fun z=>by rw [mem_singleton.mp z,htb] at nl;cases nl
 have hdt:dt ∉ [Pl]:=fun z=>by have e:=S.tb;rw [mem_singleton.mp z,htb] at e;cases e
 refine ⟨_,rfl,st,C,dx,_,_,rfl,ob,TC.cl,TC.nN,XF ln dt,_,rfl,ln,_,_,_,rfl,rfl,SqL.of nl,Zr (by rw [getElem?_map,ha];rfl),?_⟩
 refine ⟨_,rfl,_,rfl,x,rfl,N.len x hx,fun H1 s1=>⟨a,n,Zh x,rfl,hna.tf s1.tf,_,rfl,?_⟩⟩
 rcases ZjL htri hn hx hxr hFx with ⟨ps,rfl,G,hF⟩ | ⟨qs,d',rfl,rfl,hq4,hqs⟩
 ·rw [show (Nd.leaf (Zh x) ps).hasM (Zh x)=true from decide_eq_true rfl]
  refine Yg ?_
  refine ⟨_,rfl,a,_,rfl,hna.tf s1.tf,fun pt H2 s2 hpt=>?_⟩
  obtain ⟨o,ts,ept,hod,hlts,hp⟩:=hpt
  have hlts':ts.length=ps.length:=hlts
  have s12:=s1.trans s2
  have hfw:=N.few
  have hgf:=G.few
  refine ⟨pt,rfl,⟨_,.inl (.inr ⟨o,ept⟩)⟩,fun D hD=>?_⟩
  have hD0:H D=none:=by
   cases e:H D with
   | none=>rfl
   | some o=>rw [s12 _ _ e] at hD;cases hD
  have hzl:(ts.zip ps).length=ts.length:=by rw [Ts,hlts',NM]
  have hzs:(ts.zip ps).map (·.2)=ps:=List.map_snd_zip (by omega)
  refine Zin (K:=K) (a:=pt) (xs:=ts.map V.ref) (by rw [length_map];exact Qr (show ts.length<=64 by omega) (by decide))
   (fun i ys H'=>ys=(((ts.zip ps).take i).filter fun z=>!decide (z.2.1=x)).map (fun z=>V.ref z.1)/\H' D=some (.lst ys)/\Same H2 H') ⟨rfl,Zi,ZC hD _⟩ ?_ ?_ ?_
  ·rintro i ys H' ⟨rfl,_,s'⟩
   refine ⟨?_,.inl (.inr ⟨o,s' _ _ ept⟩)⟩
   rw [length_map]
   exact Qr (JG _ _) (by rw [length_take];exact MP _ _)
  ·rintro i v ys H' hi ⟨rfl,hDl,s'⟩
   have hit:i < ts.length:=by have:=(Qg.mp hi).1;rwa [length_map] at this
   have et:=getElem?_eq_getElem hit
   have ep:=getElem?_eq_getElem (show i < ps.length by omega)
   generalize ts[i]=ti at et
   generalize ps[i]=pi at ep
   have hv:V.ref ti=v:=by rw [getElem?_map,et] at hi;exact Qo hi
   subst hv
   have ez:(ts.zip ps)[i]?=some (ti,pi):=getElem?_zip_eq_some.mpr ⟨et,ep⟩
   have htup:=s' _ _ (hp i ti pi et ep)
   have hts:=Mv (fun z:Addr×(Str×V)=>!decide (z.2.1=x)) (ts.zip ps) i (ti,pi) ez
   refine ⟨_,rfl,ti,_,_,_,rfl,rfl,SqT.of htup,rfl,_,rfl,rfl,_,rfl,?_⟩
   have edx:(!decide (V.str pi.1=V.str x))=!decide (pi.1=x):=by
    by_cases z:pi.1=x
    ·rw [z,decide_eq_true rfl,decide_eq_true rfl]
    ·rw [decide_eq_false z,decide_eq_false fun y=>z (V.str.inj y)]
   rw [edx]
   by_cases z:pi.1=x
   ·rw [decide_eq_true z]
    refine ZN ⟨?_,hDl,s'⟩
    rw [hts]
    show _=List.map _ (_++if (!decide (pi.1=x))=true then [(ti,pi)] else [])
    rw [decide_eq_true z]
    simp
   ·rw [decide_eq_false z]
    refine Yg ⟨_,rfl,hDl,?_,Zi,fun b u e=>by rw [Zl (Zs e hD)];exact s' _ _ e⟩
    rw [hts]
    show _=List.map _ (_++if (!decide (pi.1=x))=true then [(ti,pi)] else [])
    rw [decide_eq_false z]
    simp
  ·rintro ys H5 ⟨rfl,hD5,s5⟩
   rw [length_map,<- hzl,PX] at hD5
   have hlp:((ts.zip ps).filter fun z=>!decide (z.2.1=x)).map (·.2)=YN ps x:=by
    unfold YN
    conv=>rhs;rw [<- hzs]
    rw [MQ];rfl
   have hlt:((ts.zip ps).filter fun z=>!decide (z.2.1=x)).map (fun z=>V.ref z.1)=(((ts.zip ps).filter fun z=>!decide (z.2.1=x)).map (·.1)).map V.ref:=by rw [map_map];rfl
   have s15:Same H H5:=s12.trans s5
   have hPT:PairT H5 (((ts.zip ps).filter fun z=>!decide (z.2.1=x)).map (·.1)) (YN ps x):=by
    refine ⟨by rw [<- hlp,length_map,length_map],fun i b p e1 e2=>?_⟩
    rw [<- hlp,getElem?_map] at e2
    rw [getElem?_map] at e1
    cases ez:((ts.zip ps).filter fun z=>!decide (z.2.1=x))[i]? with
    | none=>rw [ez] at e1;cases e1
    | some z =>
     rw [ez] at e1 e2
     cases (show some z.1=some b from e1)
     cases (show some z.2=some p from e2)
     obtain ⟨j,hj⟩:=mem_iff_getElem?.mp (mem_filter.mp (mem_of_getElem? ez)).1
     obtain ⟨h1,h2⟩:=getElem?_zip_eq_some.mp hj
     exact s5 _ _ (hp j _ _ h1 h2)
   refine ⟨_,rfl,_,.inl ⟨_,SqL.of hD5,rfl⟩,?_⟩
   by_cases Y:YN ps x=[]
   ·have:((ts.zip ps).filter fun z=>!decide (z.2.1=x))=[]:=by
     have:=congrArg GX hlp
     rw [Y,length_map] at this
     exact Jq.mp this
    rw [this]
    exact ZN (q H5 nds 0 (S.keep s15) (NEx.refl _) (by omega) (ZlF d h0 Y hF) (TakR.gone hn Y) (LamAt.same hL s15) (Same.kq s15) s15.tf)
   ·have G2:=G.but Y
    have hne:(!(((ts.zip ps).filter fun z=>!decide (z.2.1=x)).map (fun z=>V.ref z.1)).isEmpty)=true:=by
     cases e:((ts.zip ps).filter fun z=>!decide (z.2.1=x)) with
     | nil=>rw [e] at hlp;exact absurd hlp.symm Y
     | cons _ _=>rfl
    rw [hne]
    have S5:=S.keep s15
    obtain ⟨dx5,ob5⟩:=S5.ob
    refine Yg ⟨_,rfl,st,dx5,_,rfl,ob5,ZM ln dt (by decide +kernel) (by decide +kernel),_,rfl,D,_,YN ps x,rfl,by rw [hD5,hlt],hPT,Y,by have:=G2.few;omega,fun p hp=>N.len _ (G2.sub p hp),LamAt.same hL s15,fun a6 H6 p1 pr g6 L6 perm6 sort6 node6=>?_⟩
    have tb5:H5 Pl=some (.tbl tb):=s15 _ _ htb
    have tf6:TF H5 H6:=g6.tf tb5
    have S6:=S5.kq g6.kq tf6 hst hln hdt
    refine ⟨st,ln,dt,a6,nds,tabs,_,rfl,S6,node6,by omega,fun H7 S7 k7 tf7=>?_⟩
    have nl6:∃ xs,H6 ln=some (.lst xs):=by obtain ⟨as6,e6,_⟩:=S6.nl;exact ⟨_,e6⟩
    have hmk:Zh p1.1=Zh x:=(G2.perm perm6).mrk p1 mem_cons_self
    rw [hmk] at S7
    refine q H7 _ nds.length S7 (NEx.app nds _) (by rw [length_append];show nds.length+1<=_;omega) ?_ (TakR.less hn Y perm6 sort6) (L6.kq k7 fun b Y=>by rw [mem_singleton.mp Y];exact nl6) ?_ ((s15.tf.trans tf6).trans tf7)
    ·exact ZlH d hxr (by rw [getElem?_append_right (Qe _),QZ];rfl) G2 perm6 hF
    ·exact (Same.kq s15).trans ((g6.kq.sub fun b Y=>by simp at Y ⊢;exact .inr Y).trans (k7.sub fun b Y=>by simp at Y ⊢;exact .inl Y))
 ·refine ZN ?_
  refine ⟨_,rfl,a,_,rfl,hna.tf s1.tf,fun pt H2 s2 hpt=>⟨pt,_,rfl,.inr hpt,fun rl hrl1=>?_⟩⟩
  have s12:=s1.trans s2
  have W:H rl=none:=by
   cases e:H rl with
   | none=>rfl
   | some o=>rw [s12 _ _ e] at hrl1;cases hrl1
  refine ⟨_,rfl,x,rfl,N.len x hx,fun H3 s3=>⟨_,rfl,Zh x,lev,rfl,N.lo x hx,by omega,?_⟩⟩
  have el3:H3 rl=some (.lst (qs.map iN)):=s3 _ _ Zi
  have s13:Same H H3:=(s12.trans (ZC hrl1 _)).trans s3
  have S3:=S.keep s13
  have hdl:Zu (Zh x) lev < qs.length:=by rw [hq4];exact Xe _ _
  have hq1:=getElem?_eq_getElem hdl
  generalize qs[Zu (Zh x) lev]=q1 at hq1
  have hat:Xd (qs.map iN) (Zh x / 4 ^ lev % 4)=some (iN q1):=by rw [<- Wg];exact Zr (by rw [getElem?_map,hq1];rfl)
  obtain ⟨dx3,ob3⟩:=S3.ob
  refine ⟨_,rfl,st,dx3,_,rfl,ob3,ZM ln dt (by decide +kernel) (by decide +kernel),_,rfl,_,rfl,rl,_,_,_,rfl,rfl,SqL.of el3,hat,_,rfl,_,_,rfl,rfl,_,rfl,?_⟩
  refine ⟨st,ln,dt,nds,tabs,q1,lev+1,_,x,v0,Fm,rfl,S3,h0,hqs _ _ hq1,Xg hrl (Xe _ _),by omega,hx,by rw [Xw,hxr,YE (N.lo x hx)];rfl,hFx,by omega,LamAt.same hL s13,fun H5 B Z S5 ext5 len5 tri5 pr5 L5 kq5 tf5=>?_⟩
  have nrl:rl ∉ [ln,Pl]:=fun z=>by
   rcases mem_cons.mp z with z | z
   ·rw [z,nl] at W;cases W
   ·rw [mem_singleton.mp z,htb] at W;cases W
  have el5:=kq5 _ _ nrl el3
  have hix:WR (qs.map iN).length (Zh x / 4 ^ lev % 4)=some (Zu (Zh x) lev):=by
   rw [<- Wg,length_map]
   unfold WR
   rw [if_pos (by omega),if_pos (by omega)]
   rfl
  refine ⟨_,rfl,_,rfl,rl,_,_,_,rfl,rfl,el5,hix,?_⟩
  have tf6:=Zcv (o:=.lst ((qs.map iN).set (Zu (Zh x) lev) (iN Z))) el5
  have k6:Kq [rl] H5 (upd H5 rl (.lst ((qs.map iN).set (Zu (Zh x) lev) (iN Z)))):=ZbZ
  have nst:st ∉ [rl]:=fun z=>by rw [<- mem_singleton.mp z,ob] at W;cases W
  have nln:ln ∉ [rl]:=fun z=>by rw [<- mem_singleton.mp z,nl] at W;cases W
  have ndt:dt ∉ [rl]:=fun z=>by rw [<- mem_singleton.mp z,S.tb] at W;cases W
  have S6:=S5.kq k6 tf6 nst nln ndt
  have el6:upd H5 rl (.lst ((qs.map iN).set (Zu (Zh x) lev) (iN Z))) rl=some (.lst ((qs.set (Zu (Zh x) lev) Z).map iN)):=by rw [Zi,List.map_set]
  have L6:=L5.kq k6 fun b Y=>by rw [mem_singleton.mp Y];exact ⟨_,el5⟩
  have kh:Kq [ln,Pl] H (upd H5 rl (.lst ((qs.map iN).set (Zu (Zh x) lev) (iN Z)))):=fun b o nb e=>by
   rw [Zl (Zs e W)];exact kq5 _ _ nb (s13 _ _ e)
  generalize upd H5 rl (.lst ((qs.map iN).set (Zu (Zh x) lev) (iN Z)))=H6 at *
  have hps:∀ (i q:Nat),(qs.set (Zu (Zh x) lev) Z)[i]?=some q->Tri NS B (VY Fm x) d' (lev+1) (r+i * 4 ^ lev) q:=fun i q hi=>Zjd N hrl hx hxr hq4 hqs ext5 tri5 (fun y hy=>if_neg hy) i q hi
  have hp4:(qs.set (Zu (Zh x) lev) Z).length=4:=by rw [length_set,hq4]
  generalize hqn:qs.set (Zu (Zh x) lev) Z=qn at *
  have mkF:(∀ (q:Nat) (m:Int) (ps:List (Str×V)),(qn.filter fun p=>!decide (p=0))=[q]->B[q]?≠some (.leaf m ps))->TakR x nds lev num (B++[.fork qn]) B.length:=fun z=>by
   rw [<- hqn] at z ⊢
   exact TakR.fork hn hq1 pr5 z
  have h05:=ext5 _ _ h0
  have tfh:TF H H6:=(s13.tf.trans tf5).trans tf6
  refine ⟨_,rfl,rl,rfl,⟨_,SqL.of el6⟩,fun D hD=>?_⟩
  refine ZgX (K:=K) (a:=rl) (xs:=qn.map iN) (by rw [length_map,hp4];decide)
   (fun i ys H'=>ys=((qn.take i).filter fun p=>!decide (p=0)).map iN/\H' D=some (.lst ys)/\Same H6 H') ⟨rfl,Zi,ZC hD _⟩ ?_ ?_ ?_
  ·rintro i ys H' ⟨rfl,_,s'⟩
   refine ⟨?_,SqL.of (s' _ _ el6)⟩
   rw [length_map]
   exact Qr (JG _ _) (by rw [length_take];exact MP _ _)
  ·rintro i v ys H' hi ⟨rfl,hDl,s'⟩
   have hit:i < qn.length:=by have:=(Qg.mp hi).1;rwa [length_map] at this
   have et:=getElem?_eq_getElem hit
   generalize qn[i]=qi at et
   have hv:iN qi=v:=by rw [getElem?_map,et] at hi;exact Qo hi
   subst hv
   have hts:=Mv (fun p:Nat=>!decide (p=0)) qn i qi et
   refine ⟨_,rfl,rfl,_,rfl,?_⟩
   have edx:(!decide (iN qi=V.int 0))=!decide (qi=0):=by
    by_cases z:qi=0
    ·rw [z];rfl
    ·rw [decide_eq_false z,decide_eq_false fun y=>z (by have:=V.int.inj y;omega)]
   rw [edx]
   by_cases z:qi=0
   ·rw [decide_eq_true z]
    refine ZN ⟨?_,hDl,s'⟩
    rw [hts]
    show _=List.map _ (_++if (!decide (qi=0))=true then [qi] else [])
    rw [decide_eq_true z]
    simp
   ·rw [decide_eq_false z]
    refine Yg ⟨_,rfl,hDl,?_,Zi,fun b u e=>by rw [Zl (Zs e hD)];exact s' _ _ e⟩
    rw [hts]
    show _=List.map _ (_++if (!decide (qi=0))=true then [qi] else [])
    rw [decide_eq_false z]
    simp
  ·rintro ys H7 ⟨rfl,hD7,s7⟩
   rw [length_map,PX] at hD7
   generalize hfl:(qn.filter fun p=>!decide (p=0))=fl at hD7
   have S7:=S6.keep s7
   refine ⟨_,rfl,D,_,rfl,.inl (SqL.of hD7),rfl,_,rfl,?_⟩
   by_cases h1:fl.length=1
   ·obtain ⟨q8,rfl⟩:∃ q8,fl=[q8]:=by
     cases fl with
     | nil=>cases h1
     | cons b t=>cases t with
      | nil=>exact ⟨b,rfl⟩
      | cons _ _=>simp at h1
    obtain ⟨i8,hi8,hq80,_⟩:=ZbR hfl
    obtain ⟨n8,hn8,_⟩:=Ux (hps i8 q8 hi8)
    obtain ⟨as8,a8,nl8,ha8,hna8⟩:=S7.node hn8
    obtain ⟨dx8,ob8⟩:=S7.ob
    refine Yg ⟨_,rfl,st,C,dx8,_,_,rfl,ob8,TC.cl,TC.nN,XF ln dt,_,rfl,D,_,_,_,rfl,rfl,SqL.of hD7,(show Xd ([q8].map iN) ((0:Nat):Int)=some (iN q8) from Zr rfl),ln,_,_,_,rfl,rfl,SqL.of nl8,Zr (by rw [getElem?_map,ha8];rfl),a8,n8,rfl,hna8,fun pt9 H9 s9 hpt9=>?_⟩
    obtain ⟨o9,ts9,ept9,_,hl9,_⟩:=hpt9
    refine ⟨_,.inr (.inl ⟨_,.inl (.inr ⟨o9,ept9⟩),rfl⟩),?_⟩
    have J:=s7.trans s9
    cases n8 with
    | leaf m8 ps8 =>
     have hne:(!(ts9.map V.ref).isEmpty)=true:=by
      cases ts9 with
      | nil =>
       have hE:TriE NS B (VY Fm x) (lev+1) (r+i8 * 4 ^ lev) q8:=by
        have:=hps i8 q8 hi8
        cases d' with
        | zero=>exact this
        | succ d' =>
         rcases this with h | ⟨qs',h,_⟩
         ·exact h
         ·rw [hn8] at h;cases h
       rcases hE with ⟨z,_⟩ | ⟨m',ps',e,G,_⟩
       ·exact absurd z hq80
       ·rw [hn8] at e;cases e
        exact absurd (Jq.mp (show ps8.length=0 from hl9.symm)) G.ne
      | cons _ _=>rfl
     rw [hne]
     refine Yg ⟨_,rfl,D,_,_,_,rfl,rfl,SqL.of (s9 _ _ hD7),(show Xd ([q8].map iN) ((0:Nat):Int)=some (iN q8) from Zr rfl),?_⟩
     exact q H9 B q8 (S6.keep J) ext5 (by omega) (Zpm N h05 hrl hp4 hps hfl hn8) (TakR.up hn hq1 pr5 (by rw [hqn];exact hfl) hn8) (LamAt.same L6 J) (kh.trans (Same.kq J)) (tfh.trans J.tf)
    | bare =>
     rw [Jq.mp (show ts9.length=0 from hl9)]
     refine ZN ?_
     obtain ⟨dxA,obA⟩:=(S6.keep J).ob
     refine ⟨_,rfl,st,dxA,_,rfl,obA,ZM ln dt (by decide +kernel) (by decide +kernel),_,rfl,rl,qn,rfl,J _ _ el6,hp4,fun aB HB sB nodeB=>?_⟩
     have SB:=(S6.keep J).keep sB
     refine ⟨st,ln,dt,aB,B,tabs,_,rfl,SB,nodeB,by omega,fun HC SC kC tfC=>?_⟩
     have nlB:∃ xs,HB ln=some (.lst xs):=by obtain ⟨asB,eB,_⟩:=SB.nl;exact ⟨_,eB⟩
     refine q HC _ B.length SC (ext5.trans (NEx.app B _)) (by rw [length_append];show B.length+1<=_;omega) ?_ (mkF fun q m ps e h=>by rw [hfl] at e;cases e;rw [hn8] at h;cases h) ((LamAt.same (LamAt.same L6 J) sB).kq kC fun b Y=>by rw [mem_singleton.mp Y];exact nlB) ?_ (((tfh.trans J.tf).trans sB.tf).trans tfC)
     ·exact Zbs (by rw [getElem?_append_right (Qe _),QZ];rfl) hp4 fun i q hi=>Tri.mono d' (hps i q hi) (NEx.app B _)
     ·exact ((kh.trans (Same.kq J)).trans (Same.kq sB)).trans (kC.sub fun b Y=>by simp at Y ⊢;exact .inl Y)
    | fork qs8 =>
     rw [Jq.mp (show ts9.length=0 from hl9)]
     refine ZN ?_
     obtain ⟨dxA,obA⟩:=(S6.keep J).ob
     refine ⟨_,rfl,st,dxA,_,rfl,obA,ZM ln dt (by decide +kernel) (by decide +kernel),_,rfl,rl,qn,rfl,J _ _ el6,hp4,fun aB HB sB nodeB=>?_⟩
     have SB:=(S6.keep J).keep sB
     refine ⟨st,ln,dt,aB,B,tabs,_,rfl,SB,nodeB,by omega,fun HC SC kC tfC=>?_⟩
     have nlB:∃ xs,HB ln=some (.lst xs):=by obtain ⟨asB,eB,_⟩:=SB.nl;exact ⟨_,eB⟩
     refine q HC _ B.length SC (ext5.trans (NEx.app B _)) (by rw [length_append];show B.length+1<=_;omega) ?_ (mkF fun q m ps e h=>by rw [hfl] at e;cases e;rw [hn8] at h;cases h) ((LamAt.same (LamAt.same L6 J) sB).kq kC fun b Y=>by rw [mem_singleton.mp Y];exact nlB) ?_ (((tfh.trans J.tf).trans sB.tf).trans tfC)
     ·exact Zbs (by rw [getElem?_append_right (Qe _),QZ];rfl) hp4 fun i q hi=>Tri.mono d' (hps i q hi) (NEx.app B _)
     ·exact ((kh.trans (Same.kq J)).trans (Same.kq sB)).trans (kC.sub fun b Y=>by simp at Y ⊢;exact .inl Y)
   ·have hd1:decide (V.int (((fl.map iN).length:Nat):Int)=V.int 1)=false:=decide_eq_false fun z=>h1 (by have:=V.int.inj z;rw [length_map] at this;omega)
    rw [hd1]
    have J:=s7
    refine ZN (ZN ?_)
    obtain ⟨dxA,obA⟩:=(S6.keep J).ob
    refine ⟨_,rfl,st,dxA,_,rfl,obA,ZM ln dt (by decide +kernel) (by decide +kernel),_,rfl,rl,qn,rfl,J _ _ el6,hp4,fun aB HB sB nodeB=>?_⟩
    have SB:=(S6.keep J).keep sB
    refine ⟨st,ln,dt,aB,B,tabs,_,rfl,SB,nodeB,by omega,fun HC SC kC tfC=>?_⟩
    have nlB:∃ xs,HB ln=some (.lst xs):=by obtain ⟨asB,eB,_⟩:=SB.nl;exact ⟨_,eB⟩
    refine q HC _ B.length SC (ext5.trans (NEx.app B _)) (by rw [length_append];show B.length+1<=_;omega) ?_ (mkF fun q m ps e h=>h1 (by rw [<- hfl,e];rfl)) ((LamAt.same (LamAt.same L6 J) sB).kq kC fun b Y=>by rw [mem_singleton.mp Y];exact nlB) ?_ (((tfh.trans J.tf).trans sB.tf).trans tfC)
    ·exact Zbs (by rw [getElem?_append_right (Qe _),QZ];rfl) hp4 fun i q hi=>Tri.mono d' (hps i q hi) (NEx.app B _)
    ·exact ((kh.trans (Same.kq J)).trans (Same.kq sB)).trans (kC.sub fun b Y=>by simp at Y ⊢;exact .inl Y)
theorem Zgq (N:ZZ NS)(F:Fun K "taken_from" "Store.taken_from" c_Store_taken_from f fd)(T:Txt K mg)(D:YY K C)(B:Def P w K mg base 1 "has_mark" ["node","number"] (Vd K))(DP:Def P w K mg base 1 "parts_in" ["node"] (Wm K))(W:Def P w K mg base 1 "pairs_in" ["node"] (Xx K))(J:Def P w K mg base 1 "mark" ["name"] Ww)(DG:Def P w K mg base 1 "digit" ["number","level"] Wl)(Z:Def P w K mg base 2 "leaf_of" ["pairs"] (Vf K Pl YV))(z:Def P w K mg base 1 "fork_of" ["parts"] (WK K))(Y:DefM P w K mg base 1 C "keep" ["self","node"] (Ve K C))(b:Binds K fd nTk [])(mt:Vi K C "taken_from" f):∀ d,FnOk P w K mg base ZJ (2+d) f fd nTk (Zct K C Pl NS d)
 | 0=>F.ok scTk (len:=(fun _ _ _ _ h=>h.elim)) (fun _ _ _ _ _ _ _ _ _ h=>h.elim)
 | d+1=>ZoB N (Jp 2 d) F T D B DP W J DG Z z Y ⟨f,fd,Zgq N F T D B DP W J DG Z z Y b mt d,b,mt⟩
inductive ZlB (K:Qa)(C Pl:Addr)(NS:List Str)(vs:List V)(H:Hp)(Q:VK)(w_3:XK):Prop
 | mk (st ln dt:Addr) (nds:List Nd) (tabs:List (Zj×V)) (t:Nat) (x:Str) (F:Str->Option V):vs=[.ref st,iN t,.str x]->StoreAt K C st ln dt H nds tabs->nds[0]?=some .bare->(ZG tabs (QD (t:Int))).isSome=true->Tri NS nds F 5 0 0 t->x∈NS->(∀ u,F x=some u->ValV u)->nds.length+6<=100000->tabs.length<=100000->LamAt H Pl YV XV->(∀ (H':Hp) (nds':List Nd) (tabs':List (Zj×V)) (t':Nat),StoreAt K C st ln dt H' nds' tabs'->NEx nds nds'->nds'.length<=nds.length+6->tabs'.length<=tabs.length+1->(∀ k,(ZG tabs k).isSome=true->(ZG tabs' k).isSome=true)->(ZG tabs' (QD (t':Int))).isSome=true->Tri NS nds' (VY F x) 5 0 0 t'->((F x=none/\t'=t/\nds'=nds/\tabs'=tabs)\/(F x≠none/\TakR x nds 0 t nds' t'/\tabs'=Yz tabs (QD (t':Int)) (.bl true)))->LamAt H' Pl YV XV->Kq [ln,dt,Pl] H H'->TF H H'->Q (iN t') H')->ZlB K C Pl NS vs H Q w_3
theorem scWo:Zp ["self","table","name"] ["self","table","name"] (Zk c_Store_without):={}
theorem ZpI (N:ZZ NS)(F:Fun K "without" "Store.without" c_Store_without f fd)(TC:YY K C)(DLk:DefM P w K mg base 3 C "looked" ["self","table","name"] (WL K C))(DAs:DefM P w K mg base 1 C "as_table" ["self","number"] (Zeh K C))(DI:DefM P w K mg base 8 C "taken_from" nTk (Zct K C Pl NS 6)):FnOk P w K mg base ZJ 9 f fd ["self","table","name"] (ZlB K C Pl NS):=by
 refine F.ok scWo (fun cdv A outer s H vs Q E hr h=>?_)
 obtain ⟨st,ln,dt,nds,B,t,x,Fm,rfl,S,h0,W,D,hx,hFv,hlen,htl,hL,q⟩:=h
 have hr1:=hr.mono (show 1<=8 by decide)
 have hr3:=hr.mono (show 3<=8 by decide)
 refine' ⟨?t,?h,?r⟩
 case h =>
  conv=>arg 2;whnf
  with_reducible refine' Ze (Yi ?a1 (Zg ?a2) ZV) (Zg ?a3)
  case a1=>exact Zfl (Zah (ZT DLk TC.cl hr3 (pv 0) (Zb (pv 1) (Zb (pv 2) Za))))
  case a2=>exact Zn (pv 1)
  case a3=>exact Zn (ZT DAs TC.cl hr1 (pv 0) (Zb (ZT DI TC.cl hr (pv 0) (Zb (pv 1) (Zb Zd (Zb (pv 2) Za)))) Za))
 try dsimp only [ZR,Cx.nox]
 refine UI ?_
 intro zD zS zN1
 obtain ⟨dx,ob⟩:=S.ob
 obtain ⟨ws,e,n,e1,e2,e3,e4,e5⟩:=Uf N D hx
 refine ⟨_,rfl,st,dx,_,rfl,ob,ZM ln dt (by decide +kernel) (by decide +kernel),_,rfl,_,rfl,st,ln,dt,nds,B,t,x,6,ws,e,n,rfl,S,W,N.len x hx,N.lo x hx,by decide,e1,e2,e3,e4,fun H1 s1=>?_⟩
 rw [e5]
 refine ⟨_,rfl,?_⟩
 have S1:=S.keep s1
 have hL1:=LamAt.same hL s1
 cases eF:Fm x with
 | none =>
  refine Yg ⟨_,rfl,q H1 nds B t S1 (NEx.refl _) (by omega) (by omega) (fun _ h=>h) W (Tri.congr 5 (by decide) D fun y _ _=>?_) (.inl ⟨eF,rfl,rfl,rfl⟩) hL1 (Same.kq s1) s1.tf⟩
  unfold VY
  by_cases z:y=x
  ·rw [if_pos z,z,eF]
  ·rw [if_neg z]
 | some u =>
  have hc:decide ((some u).getD .non=V.non)=false:=decide_eq_false (hFv u eF).ne
  rw [hc]
  obtain ⟨dx1,ob1⟩:=S1.ob
  refine ZN ⟨_,rfl,st,dx1,_,rfl,ob1,ZM ln dt (by decide +kernel) (by decide +kernel),_,rfl,st,dx1,_,rfl,ob1,ZM ln dt (by decide +kernel) (by decide +kernel),_,rfl,_,rfl,?_⟩
  refine ⟨st,ln,dt,nds,B,t,0,0,x,u,Fm,rfl,S1,h0,D,by decide,rfl,hx,by rw [Ja,Ju],eF,hlen,hL1,fun H2 Y J S2 ext2 len2 tri2 pr2 L2' kq2 tf2=>?_⟩
  refine ⟨st,ln,dt,Y,B,J,rfl,S2,by omega,fun H3 S3 k3 tf3=>?_⟩
  refine q H3 Y _ J S3 ext2 len2 (Wb _ _ _) (fun k hk=>?_) (by rw [Uy,if_pos rfl];rfl) tri2 (.inr ⟨(fun z=>by rw [eF] at z;cases z),pr2,rfl⟩) ?_ ?_ ((s1.tf.trans tf2).trans tf3)
  ·rw [Uy]
   by_cases z:k=QD (J:Int)
   ·rw [if_pos z];rfl
   ·rw [if_neg z];exact hk
  ·have Z:∀ b∈[dt],∃ xs,H2 b=some (.dK xs):=fun b hb=>by rw [mem_singleton.mp hb];exact ⟨_,S2.tb⟩
   rcases L2' with h | ⟨c,h,h2⟩
   ·exact .inl (k3 _ _ (fun z=>by obtain ⟨_,e⟩:=Z _ z;rw [h] at e;cases e) h)
   ·exact .inr ⟨c,k3 _ _ (fun z=>by obtain ⟨_,e⟩:=Z _ z;rw [h] at e;cases e) h,k3 _ _ (fun z=>by obtain ⟨_,e⟩:=Z _ z;rw [h2] at e;cases e) h2⟩
  ·exact ((Same.kq s1).trans (kq2.sub fun b hb=>by simp at hb ⊢;rcases hb with z | z;exact .inl z;exact .inr (.inr z))).trans (k3.sub fun b hb=>by simp at hb ⊢;exact .inr (.inl hb))
end
def Yw (qs:List Nat):List Nat:=qs.filter fun p=>!decide (p=0)
def LeafAt (nds:List Nd)(num:Nat):Prop:=∃ m ps,nds[num]?=some (.leaf m ps)
def Big (nds:List Nd)(qs:List Nat):Prop:=2<=(Yw qs).length\/∃ q qs',Yw qs=[q]/\nds[q]?=some (.fork qs')
def Can (nds:List Nd):Nat->Nat->Prop
 | 0,num=>num=0\/LeafAt nds num
 | d+1,num=>(num=0\/LeafAt nds num)\/∃ qs,nds[num]?=some (.fork qs)/\(∀ q∈qs,Can nds d q)/\Big nds qs
theorem fil_mem {q:Nat}:q∈Yw qs↔q∈qs/\q≠0:=by
 unfold Yw;rw [mem_filter];simp
theorem WC (q:Nat)(qs:List Nat):(Yw (q::qs)).length=(Yw qs).length+if q=0 then 0 else 1:=by
 unfold Yw
 rw [filter_cons]
 by_cases z:q=0
 ·simp [z]
 ·simp [z]
theorem ZcI:∀{qs:List Nat}{i q y:Nat},qs[i]?=some q->(Yw (qs.set i y)).length+(if q=0 then 0 else 1)=(Yw qs).length+if y=0 then 0 else 1
 | [],i,q,y,h=>by simp at h
 | a::qs,0,q,y,h=>by
  cases h
  rw [List.set_cons_zero,WC,WC];omega
 | a::qs,i+1,q,y,h=>by
  rw [List.set_cons_succ,WC,WC]
  have:=ZcI (qs:=qs) (i:=i) (q:=q) (y:=y) (by simpa using h)
  omega
theorem ZcH {q:Nat}(J:(Yw qs).length=1)(B:q∈qs)(D:q≠0):Yw qs=[q]:=by
 match e:Yw qs,J with
 | [z],_ =>
  have:q∈Yw qs:=fil_mem.mpr ⟨B,D⟩
  rw [e] at this
  rw [mem_singleton.mp this]
theorem LeafAt.mono {B:Nat}(h:LeafAt nds B)(e:NEx nds nds'):LeafAt nds' B:=let ⟨m,ps,z⟩:=h;⟨m,ps,e _ _ z⟩
theorem Big.mono (h:Big nds qs)(e:NEx nds nds'):Big nds' qs:=by
 rcases h with h | ⟨q,z,h1,h2⟩
 ·exact .inl h
 ·exact .inr ⟨q,z,h1,e _ _ h2⟩
theorem Can.mono (e:NEx nds nds'):∀{d B:Nat},Can nds d B->Can nds' d B
 | 0,_,h=>h.imp id fun z=>z.mono e
 | d+1,_,.inl h=>.inl (h.imp id fun z=>z.mono e)
 | d+1,_,.inr ⟨qs,h1,h2,h3⟩=>.inr ⟨qs,e _ _ h1,fun q D=>Can.mono e (h2 q D),h3.mono e⟩
theorem Can.low {d z:Nat}(h:z=0\/LeafAt nds z):Can nds d z:=by
 cases d with
 | zero=>exact h
 | succ d=>exact .inl h
theorem Can.kind {d z:Nat}(h:Can nds d z)(B:z≠0):LeafAt nds z\/∃ qs,nds[z]?=some (.fork qs):=by
 cases d with
 | zero=>exact .inl (h.resolve_left B)
 | succ d =>
  rcases h with h | ⟨qs,h1,_⟩
  ·exact .inl (h.resolve_left B)
  ·exact .inr ⟨qs,h1⟩
theorem PutR.ext {lev z num':Nat}(h:PutR x v nds lev z nds' num'):NEx nds nds':=by
 induction h with
 | leaf=>exact NEx.app _ _
 | fork _ _ _ _ _ ih=>exact ih.trans (NEx.app _ _)
theorem TakR.ext {lev z num':Nat}(h:TakR x nds lev z nds' num'):NEx nds nds':=by
 induction h with
 | gone=>exact NEx.refl _
 | less=>exact NEx.app _ _
 | up _ _ _ _ _ ih=>exact ih
 | fork _ _ _ _ ih=>exact ih.trans (NEx.app _ _)
theorem UT (nds:List Nd)(n:Nd):(nds++[n])[nds.length]?=some n:=by rw [getElem?_append_right (Qe _),QZ];rfl
theorem Zkc (h0:nds[0]?=some .bare):∀{d lev r B:Nat},Tri NS nds F d lev r B->Can nds d B->r < 4 ^ lev->(∀ x∈NS,Yf x % 4 ^ lev=r->F x=none)->B=0:=by
 have e:∀ {lev r B:Nat},TriE NS nds F lev r B->(∀ x∈NS,Yf x % 4 ^ lev=r->F x=none)->B=0:=fun {lev r B} h D=>by
  rcases h with ⟨z,_⟩ | ⟨m,ps,h1,G,hm,h4⟩
  ·exact z
  ·cases ps with
   | nil=>exact absurd rfl G.ne
   | cons p pr =>
    have h2:=G.sub p mem_cons_self
    have W:Yf p.1 % 4 ^ lev=r:=by unfold Yf;rw [G.mrk p mem_cons_self];exact hm
    have h5:=D p.1 h2 W
    rw [h4 p.1 h2 W,Wh,if_pos rfl] at h5
    cases h5
 intro d
 induction d with
 | zero=>intro lev r B h _ _ D;exact e h D
 | succ d ih =>
  intro lev r B h c hr D
  rcases h with h | ⟨qs,h1,h2,W⟩
  ·exact e h D
  ·rcases c with (z | ⟨m,ps,z⟩) | ⟨qs',z1,z2,z3⟩
   ·exact z
   ·rw [h1] at z;cases z
   ·rw [h1] at z1;cases z1
    have J:∀ q∈qs,q=0:=fun q hq=>by
     obtain ⟨i,hi⟩:=mem_iff_getElem?.mp hq
     have Y:i < 4:=by rw [<- h2];exact (Qg.mp hi).1
     exact ih (W i q hi) (z2 q hq) (Xg hr Y) fun x hx Z=>D x hx (YR hr Z).1
    have hn:Yw qs=[]:=by
     cases e5:Yw qs with
     | nil=>rfl
     | cons z r =>
      have:=fil_mem.mp (show z∈Yw qs by rw [e5];exact mem_cons_self)
      exact absurd (J z this.1) this.2
    rcases z3 with z | ⟨q,qs2,z,_⟩
    ·rw [hn] at z;simp at z
    ·rw [hn] at z;cases z
theorem PutR.can {lev B num':Nat}(N:ZZ NS)(hx:x∈NS)(h0:nds[0]?=some .bare)(h:PutR x v nds lev B nds' num'):∀{d r:Nat}{F:Str->Option V},Tri NS nds F d lev r B->r < 4 ^ lev->lev+d=5->Yf x % 4 ^ lev=r->Can nds d B ->
 Can nds' d num'/\num'≠0/\((B≠0/\∀ n,nds[B]?=some n->n.hasM (Zh x)=false)->∃ qs,nds'[num']?=some (.fork qs)):=by
 have hpos:0 < nds.length:=(Qg.mp h0).1
 induction h with
 | @leaf lev B n qs hn hc hp hs =>
  intro d r F _ _ _ _ _
  refine ⟨Can.low (.inr ⟨_,_,UT _ _⟩),by omega,fun ⟨z1,z2⟩=>?_⟩
  rcases hc with z | z
  ·exact absurd z z1
  ·rw [z2 n hn] at z;cases z
 | @fork nds1 lev B q1 num1 n hn hnz hm hq hr ih =>
  intro d r F tri hrl hlev hxr can
  have ex1:=hr.ext
  have hpos1:0 < nds1.length:=(Qg.mp (ex1 _ _ h0)).1
  have hnb:n≠.bare:=fun z=>by rw [z] at hq;simp [Yn] at hq
  cases d with
  | zero =>
   have h5:lev=5:=by omega
   subst h5
   rw [ZeS N tri hn hnb hx hxr] at hm;cases hm
  | succ d =>
   obtain ⟨hf4,hft⟩:=ZeQ N h0 hrl tri hn hnb
   have J:q1∈Yn B lev n:=mem_of_getElem? hq
   have parts:(∀ q∈Yn B lev n,Can nds d q)/\((∃ m ps,n=.leaf m ps)\/∃ qs,n=.fork qs/\Big nds qs):=by
    cases n with
    | bare=>exact absurd rfl hnb
    | leaf m ps =>
     refine ⟨fun q hq=>?_,.inl ⟨m,ps,rfl⟩⟩
     obtain ⟨g,_,rfl⟩:=mem_map.mp hq
     split
     ·exact Can.low (.inr ⟨m,ps,hn⟩)
     ·exact Can.low (.inl rfl)
    | fork qs =>
     rcases can with (z | ⟨m,ps,z⟩) | ⟨qs',z1,z2,z3⟩
     ·exact absurd z hnz
     ·rw [hn] at z;cases z
     ·rw [hn] at z1;cases z1
      exact ⟨z2,.inr ⟨qs,rfl,z3⟩⟩
   obtain ⟨c1,c2,c3⟩:=ih (hft _ _ hq) (Xg hrl (Xe _ _)) (by omega) (by rw [Xw,hxr,YE (N.lo x hx)];rfl) (parts.1 q1 J)
   have Z:NEx nds1 (nds1++[.fork ((Yn B lev n).set (Zu (Zh x) lev) num1)]):=NEx.app _ _
   have hdl:Zu (Zh x) lev < (Yn B lev n).length:=by rw [hf4];exact Xe _ _
   have hin:num1∈(Yn B lev n).set (Zu (Zh x) lev) num1:=List.mem_set hdl _
   have D:=ZcI (y:=num1) hq
   rw [if_neg c2] at D
   refine ⟨.inr ⟨_,UT _ _,fun q hq'=>?_,?_⟩,by omega,fun _=>⟨_,UT _ _⟩⟩
   ·rcases Sf hq' with z | z
    ·exact Can.mono (ex1.trans Z) (parts.1 q z)
    ·rw [z];exact Can.mono Z c1
   ·rcases parts.2 with ⟨m,ps,rfl⟩ | ⟨qs,rfl,big⟩
    ·have hone:(Yw (Yn B lev (.leaf m ps))).length=1:=by
      have hd:=Xe m lev
      show (Yw ([0,1,2,3].map fun g=>if g=Zu m lev then B else 0)).length=1
      have h4:Zu m lev=0\/Zu m lev=1\/Zu m lev=2\/Zu m lev=3:=by omega
      rcases h4 with z | z | z | z<;>(rw [z];simp [Yw,hnz])
     by_cases Y:q1=0
     ·rw [if_pos Y] at D
      exact .inl (by omega)
     ·rw [if_neg Y] at D
      have eq:Yw (Yn B lev (.leaf m ps))=[q1]:=ZcH hone J Y
      have hnum:q1=B:=by
       obtain ⟨g,_,e⟩:=mem_map.mp J
       split at e
       ·exact e.symm
       ·exact absurd e.symm Y
      obtain ⟨qs3,e3⟩:=c3 ⟨Y,fun n' W=>by rw [hnum,hn] at W;cases W;exact hm⟩
      exact .inr ⟨num1,qs3,ZcH (by omega) hin c2,Z _ _ e3⟩
    ·by_cases Y:q1=0
     ·rw [if_pos Y] at D
      have:1<=(Yw qs).length:=by
       rcases big with z | ⟨q,qs2,z,_⟩
       ·omega
       ·rw [z];exact Qe 1
      have hcnt':(Yw (qs.set (Zu (Zh x) lev) num1)).length+0=(Yw qs).length+1:=D
      exact .inl (by show 2<=(Yw (qs.set (Zu (Zh x) lev) num1)).length;omega)
     ·rw [if_neg Y] at D
      have hcnt':(Yw (qs.set (Zu (Zh x) lev) num1)).length+1=(Yw qs).length+1:=D
      rcases big with z | ⟨q,qs2,z,e2⟩
      ·exact .inl (by show 2<=(Yw (qs.set (Zu (Zh x) lev) num1)).length;omega)
      ·have hq1q:q1=q:=by
        have:q1∈Yw qs:=fil_mem.mpr ⟨J,Y⟩
        rw [z] at this;exact mem_singleton.mp this
       obtain ⟨qs3,e3⟩:=c3 ⟨Y,fun n' W=>by rw [hq1q,e2] at W;cases W;rfl⟩
       have hl1:(Yw qs).length=1:=by rw [z];rfl
       exact .inr ⟨num1,qs3,ZcH (show (Yw (qs.set (Zu (Zh x) lev) num1)).length=1 by omega) hin c2,Z _ _ e3⟩
theorem TakR.can {lev D num':Nat}(h0:nds[0]?=some .bare)(h:TakR x nds lev D nds' num'):∀{d:Nat},Can nds d D->Can nds' d num'/\((∃ qs,nds[D]?=some (.fork qs))->num'≠0)/\D≠0:=by
 have nz:∀ {k:Nat} {n:Nd},nds[k]?=some n->n≠.bare->k≠0:=fun e hb z=>by rw [z,h0] at e;exact hb (Qo e).symm
 induction h with
 | @gone lev D ps hn hb =>
  intro d _
  exact ⟨Can.low (.inl rfl),(fun ⟨qs,z⟩=>by rw [hn] at z;cases z),nz hn (by intro z;cases z)⟩
 | @less lev D ps qs hn hb hp hs =>
  intro d _
  exact ⟨Can.low (.inr ⟨_,_,UT _ _⟩),(fun ⟨qs,z⟩=>by rw [hn] at z;cases z),nz hn (by intro z;cases z)⟩
 | @up nds1 lev D q1 B q qs m ps hn hq hr hf hl ih =>
  intro d can
  have hq0:q≠0:=(fil_mem.mp (show q∈Yw (qs.set (Zu (Zh x) lev) B) by unfold Yw;rw [hf];exact mem_cons_self)).2
  exact ⟨Can.low (.inr ⟨m,ps,hl⟩),fun _=>hq0,nz hn (by intro z;cases z)⟩
 | @fork nds1 lev D q1 B qs hn hq hr hf ih =>
  intro d can
  have hnz:=nz hn (by intro z;cases z)
  have ex1:=hr.ext
  have hpos1:0 < nds1.length:=(Qg.mp (ex1 _ _ h0)).1
  have exA:NEx nds1 (nds1++[.fork (qs.set (Zu (Zh x) lev) B)]):=NEx.app _ _
  refine ⟨?_,fun _=>by omega,hnz⟩
  cases d with
  | zero =>
   rcases can with z | ⟨m,ps,z⟩
   ·exact absurd z hnz
   ·rw [hn] at z;cases z
  | succ d =>
   rcases can with (z | ⟨m,ps,z⟩) | ⟨qs',z1,z2,big⟩
   ·exact absurd z hnz
   ·rw [hn] at z;cases z
   ·rw [hn] at z1;cases z1
    have J:q1∈qs:=mem_of_getElem? hq
    obtain ⟨c1,c2,c3⟩:=ih (z2 q1 J)
    have hdl:Zu (Zh x) lev < qs.length:=(Qg.mp hq).1
    have Y:=ZcI (y:=B) hq
    rw [if_neg c3] at Y
    have W:∀ q∈qs.set (Zu (Zh x) lev) B,Can nds1 d q:=fun q Z=>by
     rcases Sf Z with z | z
     ·exact Can.mono ex1 (z2 q z)
     ·rw [z];exact c1
    refine .inr ⟨_,UT _ _,fun q Z=>Can.mono exA (W q Z),?_⟩
    have one:∀ z,Yw (qs.set (Zu (Zh x) lev) B)=[z]->Big (nds1++[.fork (qs.set (Zu (Zh x) lev) B)]) (qs.set (Zu (Zh x) lev) B):=fun z e=>by
     have hz:=fil_mem.mp (show z∈Yw (qs.set (Zu (Zh x) lev) B) by rw [e];exact mem_cons_self)
     rcases (W z hz.1).kind hz.2 with ⟨m,ps,y⟩ | ⟨qs3,y⟩
     ·exact absurd y (hf z m ps e)
     ·exact .inr ⟨z,qs3,e,exA _ _ y⟩
    have ge1:1<=(Yw (qs.set (Zu (Zh x) lev) B)).length:=by
     by_cases z:B=0
     ·rw [if_pos z] at Y
      rcases big with y | ⟨q,qs2,y,e2⟩
      ·omega
      ·have hq1q:q1=q:=by
        have:q1∈Yw qs:=fil_mem.mpr ⟨J,c3⟩
        rw [y] at this;exact mem_singleton.mp this
       exact absurd z (c2 ⟨qs2,by rw [hq1q];exact e2⟩)
     ·have:B∈Yw (qs.set (Zu (Zh x) lev) B):=fil_mem.mpr ⟨List.mem_set hdl _,z⟩
      exact RF this
    match e:Yw (qs.set (Zu (Zh x) lev) B),ge1 with
    | [z],_=>exact one z e
    | _::_::_,_=>exact .inl (by rw [e];simp)
section
variable {P:Ql}{w:Qs}{K:Qa}{mg:Str->Option Qb}{base:Heap}{C Pl:Addr}{NS:List Str}
abbrev YG:YB:=Zeq YV XV
inductive Zam (K:Qa)(C Pl:Addr)(vs:List V)(H:Hp)(Q:VK)(w_3:XK):Prop
 | mk (NS:List Str) (st:Addr) (nds:List Nd) (tabs:List (Zj×V)) (t:Nat) (x:Str) (v:V) (F:Str->Option V) (Δ:Rs):ZZ NS->vs=[.ref st,iN t,.str x,v]->Sep ((st,Wa K C nds tabs)::(Pl,YG)::Δ) H->(ZG tabs (QD (t:Int))).isSome=true->Tri NS nds F 5 0 0 t->x∈NS->ValV v->(∀ u,F x=some u->ValV u)->nds.length+6<=100000->tabs.length<=100000->(∀ (H':Hp) (nds':List Nd) (tabs':List (Zj×V)) (t':Nat),Sep ((st,Wa K C nds' tabs')::(Pl,YG)::Δ) H'->NEx nds nds'->nds'.length<=nds.length+6->tabs'.length<=tabs.length+1->(∀ k,(ZG tabs k).isSome=true->(ZG tabs' k).isSome=true)->(ZG tabs' (QD (t':Int))).isSome=true->Tri NS nds' (upF F x v) 5 0 0 t'->((F x=some v/\t'=t/\nds'=nds/\tabs'=tabs)\/(F x≠some v/\PutR x v nds 0 t nds' t'/\tabs'=Yz tabs (QD (t':Int)) (.bl true)))->Q (iN t') H')->Zam K C Pl vs H Q w_3
inductive Zcu (K:Qa)(C Pl:Addr)(vs:List V)(H:Hp)(Q:VK)(w_3:XK):Prop
 | mk (NS:List Str) (st:Addr) (nds:List Nd) (tabs:List (Zj×V)) (t:Nat) (x:Str) (F:Str->Option V) (Δ:Rs):ZZ NS->vs=[.ref st,iN t,.str x]->Sep ((st,Wa K C nds tabs)::(Pl,YG)::Δ) H->(ZG tabs (QD (t:Int))).isSome=true->Tri NS nds F 5 0 0 t->x∈NS->(∀ u,F x=some u->ValV u)->nds.length+6<=100000->tabs.length<=100000->(∀ (H':Hp) (nds':List Nd) (tabs':List (Zj×V)) (t':Nat),Sep ((st,Wa K C nds' tabs')::(Pl,YG)::Δ) H'->NEx nds nds'->nds'.length<=nds.length+6->tabs'.length<=tabs.length+1->(∀ k,(ZG tabs k).isSome=true->(ZG tabs' k).isSome=true)->(ZG tabs' (QD (t':Int))).isSome=true->Tri NS nds' (VY F x) 5 0 0 t'->((F x=none/\t'=t/\nds'=nds/\tabs'=tabs)\/(F x≠none/\TakR x nds 0 t nds' t'/\tabs'=Yz tabs (QD (t':Int)) (.bl true)))->Q (iN t') H')->Zcu K C Pl vs H Q w_3
theorem ZpK {k:Nat}(h:∀ NS,ZZ NS->FnOk P w K mg base ZJ k f fd ps (ZhR K C Pl NS)):FnOk P w K mg base ZJ k f fd ps (Zam K C Pl) :=
 (FnOk.ex h).conv fun vs H Q E zz=>by
  obtain ⟨NS,st,nds,D,t,x,v,F,Δ,N,e,S,h1,h2,h3,h4,h5,h6,h7,q⟩:=zz
  obtain ⟨ln,dt,Z,b0,L,B⟩:=S.stoLam
  exact ⟨NS,N,st,ln,dt,nds,D,t,x,v,F,e,Z,b0,h1,h2,h3,h4,h5,h6,h7,L,fun H' nds' z t' Y ext len tl mono tok W J L' kq tf=>q H' nds' z t' (B H' nds' z Y (ext _ _ b0) L' kq) ext len tl mono tok W J⟩
theorem wo_S {k:Nat}(h:∀ NS,ZZ NS->FnOk P w K mg base ZJ k f fd ps (ZlB K C Pl NS)):FnOk P w K mg base ZJ k f fd ps (Zcu K C Pl) :=
 (FnOk.ex h).conv fun vs H Q E zz=>by
  obtain ⟨NS,st,nds,D,t,x,F,Δ,N,e,S,h1,h2,h3,h4,h5,h6,q⟩:=zz
  obtain ⟨ln,dt,Z,b0,L,B⟩:=S.stoLam
  exact ⟨NS,N,st,ln,dt,nds,D,t,x,F,e,Z,b0,h1,h2,h3,h4,h5,h6,L,fun H' nds' z t' Y ext len tl mono tok W J L' kq tf=>q H' nds' z t' (B H' nds' z Y (ext _ _ b0) L' kq) ext len tl mono tok W J⟩
inductive ZaH (K:Qa)(C:Addr)(vs:List V)(H:Hp)(Q:VK)(w_3:XK):Prop
 | mk (p dx:Addr) (H0:Hp) (Δ:Rs):vs=[.ref p]->H=upd (upd H0 dx (.own p)) p (.ins C dx [])->H0 p=none->H0 dx=none->dx≠p->Sep Δ H0->(∀ H',Same H0 H'->Sep ((p,Wa K C [.bare] [(QD 0,.bl true)])::Δ) H'->Q .non H')->ZaH K C vs H Q w_3
theorem Zog (h:ZaH K C vs H Q E):Zfw K C vs H Q E:=by
 obtain ⟨p,dx,Z,Δ,e,rfl,h1,h2,h3,S,q⟩:=h
 refine ⟨p,dx,e,Zi,fun ln dt H' W hdt D kq=>?_⟩
 have Y:Same Z (upd (upd Z dx (.own p)) p (.ins C dx [])):=(ZC h2 _).trans (ZC (by rw [Zl h3.symm];exact h1) _)
 have s0:Same Z H':=fun b o e=>kq b o (by simp only [mem_singleton];exact Zs e h1) (Y b o e)
 refine q H' s0 ?_
 have n1:=UH Y W
 have n2:=UH Y hdt
 obtain ⟨dx',ob⟩:=D.ob
 obtain ⟨as,nl,B,J⟩:=D.nl
 refine ⟨some_of H' [p,ln,dt],WJ,⟨rfl,ln,dt,⟨⟨dx',by rw [Wk (by simp)];exact ob⟩,⟨as,by rw [Wk (by simp)];exact nl,B,fun i a n e1 e2=>(J i a n e1 e2).tf ZgB⟩,by rw [Wk (by simp)];exact D.tb⟩⟩,S.mono fun b o e=>cut_some.mpr ⟨s0 _ _ e,fun u z=>?_⟩⟩
 cases m:YI u with
 | false=>rfl
 | true =>
  have:=Wf z m
  simp only [mem_cons,not_mem_nil,or_false] at this
  rcases this with z | z | z
  ·exact absurd z (Zs e h1)
  ·exact absurd z (Zs e n1)
  ·exact absurd z (Zs e n2)
inductive Zcq (K:Qa)(C:Addr)(vs:List V)(H:Hp)(Q:VK)(w_3:XK):Prop
 | mk (st:Addr) (nds:List Nd) (tabs:List (Zj×V)):vs=[.ref st]->Wa K C nds tabs st H->Q (.int (nds.length:Int)) H->Zcq K C vs H Q w_3
theorem scMd:Zp ["self"] ["self"] (Zk c_Store_made):={}
theorem ZmT (F:Fun K "made" "Store.made" c_Store_made f fd)(T:Txt K mg)(z:YY K C):FnOk P w K mg base ZJ 1 f fd ["self"] (Zcq K C):=by
 refine F.ok scMd (fun J A outer s H vs Q E hr h=>?_)
 obtain ⟨st,nds,D,rfl,⟨b0,B,dt,⟨⟨dx,Z⟩,⟨as,W,Y,hn⟩,tb⟩⟩,q⟩:=h
 refine ⟨_,Zg (Zn (Zz ZL rfl T.len QM (Zb (ZS (pv 0) rfl) Za))),?_⟩
 refine ⟨_,rfl,st,C,dx,_,_,rfl,Z,z.cl,z.nN,XF B dt,B,_,rfl,.inl (SqL.of W),?_⟩
 rw [length_map,Y];exact q
inductive ZcX (K:Qa)(C:Addr)(vs:List V)(H:Hp)(Q:VK)(w_3:XK):Prop
 | mk (v:_):vs=[v]->Q (.int 0) H->ZcX K C vs H Q w_3
theorem scEm:Zp ["self"] ["self"] (Zk c_Store_empty):={}
theorem ZkC (F:Fun K "empty" "Store.empty" c_Store_empty f fd)(T:Txt K mg):FnOk P w K mg base ZJ 1 f fd ["self"] (ZcX K C):=by
 refine F.ok scEm (fun z A outer s H vs Q E B h=>?_)
 obtain ⟨v,rfl,q⟩:=h
 obtain ⟨D,hz⟩:=T.zero
 exact ⟨_,Zg (Zn (Xv rfl hz (v:=.int 0) ⟨_,rfl⟩)),q⟩
end
def PsOf (NS:List Str)(F:Str->Option V)(lev r:Nat)(ps:List (Str×V)):Prop:=(ps.map (·.1)).Nodup/\∀ x v,(x,v)∈ps↔x∈NS/\Yf x % 4 ^ lev=r/\F x=some v
def PsTo (NS:List Str)(F:Str->Option V)(lev r i:Nat)(ps:List (Str×V)):Prop:=(ps.map (·.1)).Nodup/\∀ x v,(x,v)∈ps↔x∈NS/\Yf x % 4 ^ lev=r/\Yf x / 4 ^ lev % 4 < i/\F x=some v
theorem key_mem {ps:List (Str×V)}{x:Str}:x∈ps.map (·.1)↔∃ v,(x,v)∈ps:=by
 rw [mem_map]
 exact ⟨fun ⟨⟨a,v⟩,h,e⟩=>⟨v,by cases e;exact h⟩,fun ⟨v,h⟩=>⟨_,h,rfl⟩⟩
section
variable {NS:List Str}{F:Str->Option V}{lev r:Nat}
theorem PsTo.zero:PsTo NS F lev r 0 []:=⟨nodup_nil,fun x v=>⟨(fun h=>nomatch h),fun h=>absurd h.2.2.1 (Nat.not_lt_zero _)⟩⟩
theorem PsTo.step {i:Nat}(h:PsTo NS F lev r i ps)(hr:r < 4 ^ lev)(g:PsOf NS F (lev+1) (r+i * 4 ^ lev) qs):PsTo NS F lev r (i+1) (ps++qs):=by
 have D:∀ {n:Nat},n % 4 ^ (lev+1)=r+i * 4 ^ lev↔n % 4 ^ lev=r/\n / 4 ^ lev % 4=i:=fun {n}=>⟨fun z=>YR hr z,fun ⟨W,Z⟩=>by rw [Xw,W,Z]⟩
 refine ⟨?_,fun x v=>?_⟩
 ·rw [map_append,nodup_append]
  refine ⟨h.1,g.1,fun a ha b hb e=>?_⟩
  subst e
  obtain ⟨u,Y⟩:=key_mem.mp ha
  obtain ⟨v,hv⟩:=key_mem.mp hb
  have h1:=((h.2 _ _).mp Y).2.2.1
  have h2:=(D.mp ((g.2 _ _).mp hv).2.1).2
  omega
 ·rw [mem_append,h.2,g.2,D]
  constructor
  ·rintro (⟨h1,h2,J,B⟩ | ⟨h1,⟨h2,J⟩,B⟩)
   ·exact ⟨h1,h2,by omega,B⟩
   ·exact ⟨h1,h2,by omega,B⟩
  ·rintro ⟨h1,h2,J,B⟩
   by_cases z:Yf x / 4 ^ lev % 4 < i
   ·exact .inl ⟨h1,h2,z,B⟩
   ·exact .inr ⟨h1,⟨h2,by omega⟩,B⟩
theorem PsTo.done (h:PsTo NS F lev r 4 ps):PsOf NS F lev r ps :=
 ⟨h.1,fun x v=>by rw [h.2];exact ⟨fun ⟨a,b,_,c⟩=>⟨a,b,c⟩,fun ⟨a,b,c⟩=>⟨a,b,No _ (by decide),c⟩⟩⟩
theorem Zjl (h:∀ x∈NS,Yf x % 4 ^ lev=r->F x=none):PsOf NS F lev r []:=⟨nodup_nil,fun x v=>⟨(fun h=>nomatch h),fun ⟨a,b,c⟩=>by rw [h x a b] at c;cases c⟩⟩
theorem Zjk {m:Int}(G:LeafG NS m ps)(D:m.toNat % 4 ^ lev=r)(z:∀ x∈NS,Yf x % 4 ^ lev=r->F x=lk ps x):PsOf NS F lev r ps:=by
 refine ⟨G.nd,fun x v=>⟨fun h=>?_,fun ⟨h1,h2,B⟩=>?_⟩⟩
 ·have h1:=G.sub _ h
  have h2:Yf x % 4 ^ lev=r:=by unfold Yf;rw [G.mrk _ h];exact D
  exact ⟨h1,h2,by rw [z x h1 h2];exact (YC G.nd).mpr h⟩
 ·rw [z x h1 h2] at B
  exact (YC G.nd).mp B
theorem PsOf.few (h:PsOf NS F lev r ps):ps.length<=NS.length:=by
 have:=ZaB h.1 (N:=NS) fun x B=>by obtain ⟨v,z⟩:=key_mem.mp B;exact ((h.2 _ _).mp z).1
 rwa [length_map] at this
end
section
variable {P:Ql}{w:Qs}{K:Qa}{mg:Str->Option Qb}{base:Heap}{C Pp:Addr}{NS:List Str}
def Zfx (K:Qa)(C:Addr)(NS:List Str):Nat->Sp
 | 0=>fun _ _ _ _=>False
 | d+1=>fun vs H Q _=>∃ (st ln dt:Addr) (nds:List Nd) (tabs:List (Zj×V)) (num lev r:Nat) (F:Str->Option V),vs=[.ref st,iN num]/\StoreAt K C st ln dt H nds tabs/\Tri NS nds F d lev r num/\r < 4 ^ lev /\
  ∀ (l:Addr) (H':Hp) (ts:List Addr) (ps:List (Str×V)),H l=none->Same H H'->H' l=some (.lst (ts.map V.ref))->PairT H' ts ps->PsOf NS F lev r ps->Q (.ref l) H'
theorem Zjb (h:PairT H ts ps)(g:PairT H us qs):PairT H (ts++us) (ps++qs):=by
 refine ⟨by rw [length_append,length_append,h.1,g.1],fun i a p e1 z=>?_⟩
 by_cases hi:i < ts.length
 ·rw [getElem?_append_left hi] at e1
  rw [getElem?_append_left (by rw [<- h.1];exact hi)] at z
  exact h.2 i a p e1 z
 ·rw [getElem?_append_right (by omega)] at e1
  rw [getElem?_append_right (by rw [<- h.1];omega),<- h.1] at z
  exact g.2 _ a p e1 z
abbrev nPB:List Str:=["self","number","node","told","part"]
abbrev Zbm:List Str:=["self","number"]
theorem scPB:Zp nPB Zbm (Zk c_Store_pairs_below):={}
theorem ZpF {d k:Nat}(N:ZZ NS)(hk:1<=k)(F:Fun K "pairs_below" "Store.pairs_below" c_Store_pairs_below f fd)(T:Txt K mg)(TC:YY K C)(DR:Def P w K mg base 1 "pairs_in" ["node"] (Xx K))(DP:Def P w K mg base 1 "parts_in" ["node"] (Wm K))(B:DefM P w K mg base k C "pairs_below" Zbm (Zfx K C NS d)):FnOk P w K mg base ZJ (k+1) f fd Zbm (Zfx K C NS (d+1)):=by
 refine F.ok scPB (fun cdv A outer s H vs Q E hr h=>?_)
 obtain ⟨st,ln,dt,nds,tabs,num,lev,r,Fm,rfl,S,D,hrl,q⟩:=h
 have hr1:=hr.mono hk
 refine' ⟨?t,?h,?r⟩
 case h =>
  conv=>arg 2;whnf
  with_reducible refine' (Ze ?h1 (Ze ?h2 (Ze (Wt ?h3 ?h4 ?h5 ?h6 (Zg ?h7) ?h8) (Zg ?h9))))
  case h1=>exact Zx (i:=2) scPB.nd rfl (Qy rfl) (Zo ZD (ZS (pv 0) rfl) (pv 1) (fun _ _=>rfl))
  case h2=>exact Zx (i:=3) scPB.nd rfl (Qy rfl) (Yk Um rfl T.list (by decide +kernel) (Zb (ZA DR hr1 (Zb (pv 2) Za)) Za))
  case h3=>exact Ga
  case h4=>exact rfl
  case h5=>exact Zfi (ZA DP hr1 (Zb (pv 2) Za))
  case h6=>exact ZI (i:=4) scPB.nd rfl (Qy rfl)
  case h7=>exact ZY (YL Qz SQ SS Zdy (pv 3) (Zb (ZT B TC.cl hr (pv 0) (Zb (pv 4) Za)) Za))
  case h8=>exact fun _=>rfl
  case h9=>exact Zn (pv 3)
 try dsimp only [ZR,Cx.nox]
 refine zs4 ?_
 intro zD zS zN3 zN2 zN1
 obtain ⟨n,Z,_⟩:=Ux D
 obtain ⟨as,a,nl,ha,hna⟩:=S.node Z
 obtain ⟨dx,ob⟩:=S.ob
 refine ⟨_,rfl,st,C,dx,_,_,rfl,ob,TC.cl,TC.nN,XF ln dt,_,rfl,ln,_,_,_,rfl,rfl,SqL.of nl,Zr (by rw [getElem?_map,ha];rfl),?_⟩
 refine ⟨_,rfl,a,n,rfl,hna,fun pt H1 s1 hpt=>?_⟩
 obtain ⟨o,ts,ept,hod,hPT⟩:=hpt
 refine ⟨pt,_,rfl,.inr (.inl (.inr ⟨o,ept⟩)),fun l hl=>?_⟩
 have hlH:H l=none:=UH s1 hl
 have s2:=ZC hl (.lst (ts.map V.ref))
 refine ⟨_,rfl,a,n,rfl,hna.tf (s1.trans s2).tf,fun pa H3 s3 hpa=>?_⟩
 have s03:Same H H3:=(s1.trans s2).trans s3
 refine ⟨pa,rfl,⟨_,hpa⟩,?_⟩
 have hlen:∀ {lev' r':Nat} {ps:List (Str×V)},PsOf NS Fm lev' r' ps->ps.length<=63:=fun h=>by have:=h.few;have:=N.few;omega
 have ends:n.parts=[]->PsOf NS Fm lev r n.pairs:=fun z=>by
  have e:TriE NS nds Fm lev r num->PsOf NS Fm lev r n.pairs:=fun g=>by
   rcases g with ⟨_,h2,h3⟩ | ⟨m,ps,h1,G,hm,hF⟩
   ·rw [Z] at h2;cases h2;exact Zjl h3
   ·rw [Z] at h1;cases h1;exact Zjk G hm hF
  cases d with
  | zero=>exact e D
  | succ d =>
   rcases D with h | ⟨qs,h1,h2,_⟩
   ·exact e h
   ·rw [Z] at h1;cases h1
    rw [show qs=[] from z] at h2;cases h2
 refine Zmv (K:=K) (xs:=n.parts.map fun q:Nat=>V.int (q:Int)) (fun i σ H'=>∃ (y:Option V) (us:List Addr) (ps:List (Str×V)),σ=[some (.ref st),some (iN num),some (.ref a),some (.ref l),y]/\Same H H'/\Same H1 H'/\SqT K H' pa (n.parts.map fun q:Nat=>V.int (q:Int))/\H' l=some (.lst (us.map V.ref))/\PairT H' us ps/\(n.parts=[]->ps=n.pairs)/\(n.parts≠[]->PsTo NS Fm lev r i ps))
  ⟨_,ts,n.pairs,rfl,s03,s2.trans s3,hpa,s3 _ _ Zi,(hPT.tf s2.tf).tf s3.tf,fun _=>rfl,fun z=>?_⟩ (fun i σ H' _ h=>?_) ?_ ?_
 ·cases n with
  | bare=>exact absurd rfl z
  | leaf m ps=>exact absurd rfl z
  | fork qs=>exact PsTo.zero
 ·obtain ⟨_,_,_,_,_,_,h,_⟩:=h;exact h
 ·rintro i x σ H4 hx ⟨y,us,ps,rfl,s4,s14,hpa4,W,J,hb4,hf4⟩
  rw [getElem?_map] at hx
  cases eq1:n.parts[i]? with
  | none=>rw [eq1] at hx;cases hx
  | some q1 =>
   rw [eq1] at hx
   cases (show some (V.int (q1:Int))=some x from hx)
   have Y:n.parts≠[]:=fun z=>by rw [z] at eq1;simp at eq1
   have hto:=hf4 Y
   cases n with
   | bare=>exact absurd rfl Y
   | leaf m ps=>exact absurd rfl Y
   | fork qs =>
    cases d with
    | zero =>
     rcases D with ⟨_,h2,_⟩ | ⟨m,ps,h1,_⟩
     ·rw [Z] at h2;cases h2
     ·rw [Z] at h1;cases h1
    | succ d =>
     rcases D with h | ⟨qs',h1,h2,h3⟩
     ·rcases h with ⟨_,h2,_⟩ | ⟨m,ps,h1,_⟩
      ·rw [Z] at h2;cases h2
      ·rw [Z] at h1;cases h1
     ·rw [Z] at h1;cases h1
      have tq:=h3 i q1 eq1
      have hi4:i < 4:=by rw [<- h2];exact (Qg.mp eq1).1
      have S4:=S.keep s4
      obtain ⟨dx4,ob4⟩:=S4.ob
      refine ⟨_,rfl,.inl ⟨rfl,_,SqL.of W⟩,_,rfl,st,dx4,_,rfl,ob4,ZM ln dt (by decide +kernel) (by decide +kernel),_,rfl,?_⟩
      refine ⟨st,ln,dt,nds,tabs,q1,lev+1,r+i * 4 ^ lev,Fm,rfl,S4,tq,Xg hrl hi4,fun l2 H5 us2 ps2 hl2 s5 el5 hpt5 hps5=>?_⟩
      have nl2:l2≠l:=fun z=>by rw [z,W] at hl2;cases hl2
      have el45:=s5 _ _ W
      have b1:=hlen hps5
      have b2:ps.length<=63:=by
       have h1:=ZaB hto.1 (N:=NS) fun x hx=>by obtain ⟨v,hv⟩:=key_mem.mp hx;exact ((hto.2 _ _).mp hv).1
       rw [length_map] at h1
       have:=N.few
       omega
      refine ⟨l,l2,_,_,rfl,rfl,el45,el5,by rw [length_map,length_map,J.1,hpt5.1];exact Yy (show _<=200 by omega),?_⟩
      have tf5:=Zcv (o:=.lst (us.map V.ref++us2.map V.ref)) el45
      refine ⟨_,us++us2,ps++ps2,rfl,fun b o e=>?_,fun b o e=>?_,(hpa4.tf s5.tf).tf tf5,?_,Zjb ((J.tf s5.tf).tf tf5) (hpt5.tf tf5),fun z=>absurd z Y,fun _=>hto.step hrl hps5⟩
      ·rw [Zl (Zs e hlH)];exact s5 _ _ (s4 _ _ e)
      ·rw [Zl (Zs e hl)];exact s5 _ _ (s14 _ _ e)
      ·rw [map_append];exact Zi
 ·rintro σ H4 ⟨y,us,ps,rfl,s4,s14,hpa4,W,J,hb4,hf4⟩
  refine ⟨_,rfl,q l H4 us ps hlH s4 W J ?_⟩
  by_cases z:n.parts=[]
  ·rw [hb4 z];exact ends z
  ·have h4:=hf4 z
   rw [length_map] at h4
   cases n with
   | bare=>exact absurd rfl z
   | leaf m ps=>exact absurd rfl z
   | fork qs =>
    obtain ⟨_,_,_,hl4⟩:=hna
    rw [show (Nd.fork qs).parts.length=4 from hl4] at h4
    exact h4.done
theorem ZiW (N:ZZ NS)(F:Fun K "pairs_below" "Store.pairs_below" c_Store_pairs_below f fd)(T:Txt K mg)(z:YY K C)(D:Def P w K mg base 1 "pairs_in" ["node"] (Xx K))(B:Def P w K mg base 1 "parts_in" ["node"] (Wm K))(b:Binds K fd Zbm [])(mt:Vi K C "pairs_below" f):∀ d,FnOk P w K mg base ZJ (1+d) f fd Zbm (Zfx K C NS d)
 | 0=>F.ok scPB (len:=(fun _ _ _ _ h=>h.elim)) (fun _ _ _ _ _ _ _ _ _ h=>h.elim)
 | d+1=>ZpF N (Jp 1 d) F T z D B ⟨f,fd,ZiW N F T z D B b mt d,b,mt⟩
def ZmC:Stmt->Pos
 | .Return (some (.Call _ _ [⟨_,.Lambda _ _ _ p,_⟩] _)) _=>p
 | _=>⟨0,0,0,0⟩
def XQ:Pos:=ZmC ((XO c_Store_pairs).getD 1 (.Pass ⟨0,0,0,0⟩))
def Wv:Str:=(("Store.pairs":Str)++".<locals>.")++"<lambda>"
inductive VI (K:Qa)(C Pp:Addr)(NS:List Str)(vs:List V)(H:Hp)(Q:VK)(w_3:XK):Prop
 | mk (st ln dt:Addr) (nds:List Nd) (tabs:List (Zj×V)) (t:Nat) (F:Str->Option V):vs=[.ref st,iN t]->StoreAt K C st ln dt H nds tabs->(ZG tabs (QD (t:Int))).isSome=true->Tri NS nds F 5 0 0 t->LamAt H Pp XQ Wv->(∀ (l:Addr) (H':Hp) (ts:List Addr) (ps:List (Str×V)),H l=none->Grown Pp H H'->LamAt H' Pp XQ Wv->H' l=some (.lst (ts.map V.ref))->PairT H' ts ps->PsOf NS F 0 0 ps->YS ps->Q (.ref l) H')->VI K C Pp NS vs H Q w_3
abbrev nPs:List Str:=["self","table"]
abbrev ZcQ:List Str:=["self","table"]
theorem scPs:Zp nPs ZcQ (Zk c_Store_pairs):={}
theorem ZdB (N:ZZ NS)(F:FunC K "pairs" "Store.pairs" c_Store_pairs f fd c Pl)(T:Txt K mg)(TC:YY K C)(hBm:UJ base mg)(D:DefM P w K mg base 7 C "check_table" ["self","table"] (ZaF K C))(B:DefM P w K mg base 7 C "pairs_below" Zbm (Zfx K C NS 6)):FnOk P w K mg base ZJ 8 f fd ZcQ (VI K C Pl NS):=by
 refine F.ok scPs (fun A outer s H vs Q E hr h=>?_)
 obtain ⟨st,ln,dt,nds,W,t,Fm,rfl,S,htab,htri,hL,q⟩:=h
 refine' ⟨?t,?h,?r⟩
 case h =>
  conv=>arg 2;whnf
  with_reducible refine' (Ze ?h1 (Zg ?h2))
  case h1=>exact ZY (ZT D TC.cl hr (pv 0) (Zb (pv 1) Za))
  case h2=>exact Zn (Zfh (c:=c) (Pl:=Pl) rfl T.sorted (ZT B TC.cl hr (pv 0) (Zb (pv 1) Za)) hr rfl F.hd hBm)
 try dsimp only [ZR,Cx.nox]
 refine UI ?_
 intro zD zS zN1
 obtain ⟨dx,ob⟩:=S.ob
 refine ⟨_,rfl,st,dx,_,rfl,ob,ZM ln dt (by decide +kernel) (by decide +kernel),_,rfl,st,ln,dt,nds,W,t,rfl,S,htab,?_⟩
 refine ⟨_,rfl,st,dx,_,rfl,ob,ZM ln dt (by decide +kernel) (by decide +kernel),_,rfl,st,ln,dt,nds,W,t,0,0,Fm,rfl,S,htri,by decide,fun l1 H1 ts ps hl1 s1 el1 J Y=>?_⟩
 have hpl:ps.length<=63:=by have:=Y.few;have:=N.few;omega
 refine ⟨l1,ts,ps.map (·.1),rfl,el1,by rw [J.1];omega,by rw [length_map,J.1],fun i a k e1 e2=>?_,LamAt.same hL s1,fun H2 l ts' gr Z hl hO=>?_⟩
 ·rw [getElem?_map] at e2
  cases e3:ps[i]? with
  | none=>rw [e3] at e2;cases e2
  | some p =>
   rw [e3] at e2
   cases (show some p.1=some k from e2)
   exact ⟨_,J.2 i a p e1 e3⟩
 ·obtain ⟨tb,etb⟩:=(LamAt.same hL s1).tbl
  have hpt2:=J.tf (gr.tf etb)
  obtain ⟨ps',hp1,hp2,hp3⟩:=Zhp hpt2 hO
  have hlH:H l=none:=by
   cases e:H l with
   | none=>rfl
   | some o =>
    have e1:=s1 _ _ e
    by_cases z:l=Pl
    ·obtain ⟨tb2,etb2⟩:=Z.tbl;rw [z,etb2] at hl;cases hl
    ·rw [gr _ _ z e1] at hl;cases hl
  have s3:=ZC hl (.lst (ts'.map V.ref))
  refine q l _ ts' ps' hlH (fun b o nb e=>s3 _ _ (gr b o nb (s1 _ _ e))) (LamAt.same Z s3) Zi (hp3.tf s3.tf) ⟨(hp1.map (·.1)).nodup_iff.mpr Y.1,fun x v=>by rw [hp1.mem_iff];exact Y.2 x v⟩ hp2
end
section
variable {K:Qa}{C:Addr}
end
structure Xo (K:Qa)(CR:Addr):Prop where
 cl:Cls K CR
 nk:NoAttr K CR "kept"
 na:NoAttr K CR "aheads"
 ns:NoAttr K CR "steps"
 nt:NoAttr K CR "tables"
 nc:NoAttr K CR "costs"
section
variable {P:Ql}{w:Qs}{K:Qa}{mg:Str->Option Qb}{base:Heap}{CR CS Pl:Addr}{NS:List Str}
theorem Zai :(WW st B z lt D).lookup ("kept":Str)=some (V.ref st):=rfl
theorem Zbo :(WW st z B lt D).lookup ("aheads":Str)=some (V.ref z):=rfl
theorem ZhH :(WW st B z lt D).lookup ("steps":Str)=some (V.ref z):=rfl
theorem Zlq :(WW st B z lt D).lookup ("tables":Str)=some (V.ref lt):=rfl
theorem Zlp :(WW st D B lt z).lookup ("costs":Str)=some (V.ref z):=rfl
theorem Yq (h:[("kept":Str),"aheads","steps","tables","costs"].all (fun k=>!(m == k))=true):(WW st B J lt Y).lookup m=none:=by
 simp only [OL,List.all_nil,Bool.and_true,QO,Bool.not_eq_true'] at h
 obtain ⟨h1,h2,W,z,D⟩:=h
 simp [WW,JJ,h1,h2,W,z,D]
abbrev RdR (K:Qa)(CR CS:Addr)(r:Addr)(pls:List ZE)(nds:List Nd)(tabs:List (Zj×V))(H:Hp):Prop:=XB K CR CS pls nds tabs r H
inductive ZaG (K:Qa)(CR CS:Addr)(vs:List V)(H:Hp)(Q:VK)(w_3:XK):Prop
 | mk (r:Addr) (pls:List ZE) (nds:List Nd) (tabs:List (Zj×V)) (k:Nat):vs=[.ref r,.int (k:Int)]->RdR K CR CS r pls nds tabs H->k<=pls.length->Q .non H->ZaG K CR CS vs H Q w_3
abbrev nRCk:List Str:=["self","place"]
abbrev ZaD:List Str:=["self","place"]
theorem ZpS:Zp nRCk ZaD (Zk c_Roads_check_place):={}
theorem ZmY (F:Fun K "check_place" "Roads.check_place" c_Roads_check_place f fd)(T:Yl mg)(B:Xo K CR):FnOk P w K mg base ZJ 1 f fd ZaD (ZaG K CR CS):=by
 refine F.ok ZpS (fun J A outer s H vs Q E hr h=>?_)
 obtain ⟨r,pls,nds,D,k,rfl,⟨st,z,ls,lt,Z,S⟩,Y,q⟩:=h
 obtain ⟨dx,W⟩:=S.get r
 refine' ⟨?t,?h,?r⟩
 case h =>
  conv=>arg 2;whnf
  with_reducible refine' (Zg (Yi ?h1 (Zg ZlZ) ZV))
  case h1=>exact Zcl (Zlh ZpJ ZaC Zd (pv 1) (Zz ZL rfl T.len QM (Zb (ZS (pv 0) rfl) Za)))
 try dsimp only [ZR,Cx.nox]
 refine ⟨_,rfl,_,_,rfl,rfl,_,rfl,?_⟩
 rw [decide_eq_true (show (0:Int)<=(k:Int) by omega)]
 refine Yg ⟨_,rfl,r,CR,dx,_,_,rfl,W,B.cl,B.na,Zbo,z,_,rfl,.inl (SqL.of (S.get z)),_,_,rfl,rfl,_,rfl,?_⟩
 rw [decide_eq_true (show (k:Int) < (((V.non::pls.map fun q=>V.int (q.ah:Int)).length:Nat):Int) by rw [length_cons,length_map];omega)]
 exact ZN q
inductive Zbq (K:Qa)(CR CS:Addr)(vs:List V)(H:Hp)(Q:VK)(w_3:XK):Prop
 | mk (r:Addr) (pls:List ZE) (nds:List Nd) (tabs:List (Zj×V)):vs=[.ref r]->RdR K CR CS r pls nds tabs H->Q (.int ((pls.length+1:Nat):Int)) H->Zbq K CR CS vs H Q w_3
abbrev nRPl:List Str:=["self"]
abbrev ZhA:List Str:=["self"]
theorem ZpX:Zp nRPl ZhA (Zk c_Roads_places):={}
theorem ZiX (F:Fun K "places" "Roads.places" c_Roads_places f fd)(T:Yl mg)(B:Xo K CR):FnOk P w K mg base ZJ 1 f fd ZhA (Zbq K CR CS):=by
 refine F.ok ZpX (fun J A outer s H vs Q E Z h=>?_)
 obtain ⟨r,pls,nds,D,rfl,⟨st,z,ls,lt,Y,S⟩,q⟩:=h
 obtain ⟨dx,W⟩:=S.get r
 refine' ⟨?t,?h,?r⟩
 case h =>
  conv=>arg 2;whnf
  with_reducible refine' (Zg ?h1)
  case h1=>exact Zn (Zz ZL rfl T.len QM (Zb (ZS (pv 0) rfl) Za))
 try dsimp only [ZR,Cx.nox]
 refine ⟨_,rfl,r,CR,dx,_,_,rfl,W,B.cl,B.na,Zbo,z,_,rfl,.inl (SqL.of (S.get z)),?_⟩
 rw [length_cons,length_map];exact q
def ahV (pls:List ZE):Nat->V
 | 0=>.non
 | k+1=>.int (((pls.getD k ⟨0,.clr "",0,0⟩).ah:Nat):Int)
theorem ZnQ {k:Nat}(h:k<=pls.length):(V.non::pls.map fun q=>V.int (q.ah:Int))[k]?=some (ahV pls k):=by
 cases k with
 | zero=>rfl
 | succ k =>
  rw [GC,getElem?_map,getElem?_eq_getElem (show k < pls.length by omega)]
  show some _=some (V.int _)
  rw [getD_eq_getElem?_getD,getElem?_eq_getElem (show k < pls.length by omega)]
  rfl
inductive ZcV (K:Qa)(CR CS:Addr)(vs:List V)(H:Hp)(Q:VK)(w_3:XK):Prop
 | mk (r:Addr) (pls:List ZE) (nds:List Nd) (tabs:List (Zj×V)) (k:Nat):vs=[.ref r,.int (k:Int)]->RdR K CR CS r pls nds tabs H->k<=pls.length->Q (ahV pls k) H->ZcV K CR CS vs H Q w_3
abbrev nRAh:List Str:=["self","place"]
abbrev Zhw:List Str:=["self","place"]
theorem ZpQ:Zp nRAh Zhw (Zk c_Roads_ahead):={}
theorem Zky (F:Fun K "ahead" "Roads.ahead" c_Roads_ahead f fd)(T:Yl mg)(D:Xo K CR)(z:DefM P w K mg base 1 CR "check_place" ZaD (ZaG K CR CS)):FnOk P w K mg base ZJ 2 f fd Zhw (ZcV K CR CS):=by
 refine F.ok ZpQ (fun Z A outer s H vs Q E hr h=>?_)
 obtain ⟨r,pls,nds,B,k,rfl,R,J,q⟩:=h
 obtain ⟨st,W,ls,lt,lc,S⟩:=id R
 obtain ⟨dx,Y⟩:=S.get r
 refine' ⟨?t,?h,?r⟩
 case h =>
  conv=>arg 2;whnf
  with_reducible refine' (Ze ?h1 (Zg ?h2))
  case h1=>exact ZY (ZT z D.cl hr (pv 0) (Zb (pv 1) Za))
  case h2=>exact Zn (Zo ZD (ZS (pv 0) rfl) (pv 1) (fun _ _=>rfl))
 try dsimp only [ZR,Cx.nox]
 refine UI ?_
 intro zD zS zN1
 refine ⟨_,rfl,r,dx,_,rfl,Y,Yq (by decide +kernel),_,rfl,r,pls,nds,B,k,rfl,R,J,?_⟩
 exact ⟨_,rfl,r,CR,dx,_,_,rfl,Y,D.cl,D.na,Zbo,_,rfl,W,_,_,_,rfl,rfl,SqL.of (S.get W),Zr (ZnQ J),q⟩
end
def bk (pls:List ZE):Nat->Nat->List Nat
 | 0,_=>[]
 | _+1,0=>[0]
 | f+1,k+1=>(k+1)::bk pls f (pls.getD k ⟨0,.clr "",0,0⟩).ah
def WfP (pls:List ZE):Prop:=∀(k:Nat)(q:ZE),pls[k]?=some q->q.ah<=k
theorem WfP.at (h:WfP pls){k:Nat}(z:k < pls.length):(pls.getD k ⟨0,.clr "",0,0⟩).ah<=k:=by
 have e:=getElem?_eq_getElem z
 rw [getD_eq_getElem?_getD,e]
 exact h k _ e
theorem Zeu (pls:List ZE):∀ f k,(bk pls f k).length<=f
 | 0,_=>Qe _
 | f+1,0=>by show 1<=f+1;omega
 | f+1,k+1=>by show (bk pls f _).length+1<=f+1;have:=Zeu pls f (pls.getD k ⟨0,.clr "",0,0⟩).ah;omega
theorem ZcE (h:WfP pls):∀ k,k<=pls.length->∀ f,k+1<=f->bk pls f k=bk pls (k+1) k:=by
 intro k
 induction k using RS with
 | ind k ih =>
  intro B f D
  cases k with
  | zero=>obtain ⟨g,rfl⟩:∃ g,f=g+1:=⟨f - 1,by omega⟩;rfl
  | succ k =>
   obtain ⟨g,rfl⟩:∃ g,f=g+1:=⟨f - 1,by omega⟩
   have z:=h.at (show k < pls.length by omega)
   show (k+1)::bk pls g _=(k+1)::bk pls (k+1) _
   rw [ih _ (by omega) (by omega) g (by omega),ih _ (by omega) (by omega) (k+1) (by omega)]
section
variable {P:Ql}{w:Qs}{K:Qa}{mg:Str->Option Qb}{base:Heap}{CR CS Pl:Addr}{NS:List Str}
def StV (pls:List ZE)(k:Nat)(v:V)(H:Hp):Prop:=match k with
 | 0=>v=.non
 | k+1=>∃ a s,v=.ref a/\(pls.map (·.st))[k]?=some s/\H a=some (.tup s.vs)
inductive Zdd (K:Qa)(CR CS:Addr)(vs:List V)(H:Hp)(Q:VK)(w_3:XK):Prop
 | mk (r:Addr) (pls:List ZE) (nds:List Nd) (tabs:List (Zj×V)) (k:Nat):vs=[.ref r,.int (k:Int)]->RdR K CR CS r pls nds tabs H->k<=pls.length->(∀ v,StV pls k v H->Q v H)->Zdd K CR CS vs H Q w_3
abbrev nRSt:List Str:=["self","place"]
abbrev ZhC:List Str:=["self","place"]
theorem Zqa:Zp nRSt ZhC (Zk c_Roads_step):={}
theorem ZkL (F:Fun K "step" "Roads.step" c_Roads_step f fd)(T:Yl mg)(B:Xo K CR)(z:DefM P w K mg base 1 CR "check_place" ZaD (ZaG K CR CS)):FnOk P w K mg base ZJ 2 f fd ZhC (Zdd K CR CS):=by
 refine F.ok Zqa (fun cdv A outer s H vs Q E hr h=>?_)
 obtain ⟨r,pls,nds,J,k,rfl,R,hk,q⟩:=h
 obtain ⟨st,la,Z,lt,lc,S⟩:=id R
 obtain ⟨dx,Y⟩:=S.get r
 obtain ⟨as,D,hal,W⟩:=S.get Z
 refine' ⟨?t,?h,?r⟩
 case h =>
  conv=>arg 2;whnf
  with_reducible refine' (Ze ?h1 (Zg ?h2))
  case h1=>exact ZY (ZT z B.cl hr (pv 0) (Zb (pv 1) Za))
  case h2=>exact Zn (Zo ZD (ZS (pv 0) rfl) (pv 1) (fun _ _=>rfl))
 try dsimp only [ZR,Cx.nox]
 refine UI ?_
 intro zD zS zN1
 refine ⟨_,rfl,r,dx,_,rfl,Y,Yq (by decide +kernel),_,rfl,r,pls,nds,J,k,rfl,R,hk,?_⟩
 rw [length_map] at hal
 cases k with
 | zero=>exact ⟨_,rfl,r,CR,dx,_,_,rfl,Y,B.cl,B.ns,ZhH,_,rfl,Z,_,_,_,rfl,rfl,SqL.of D,Zr rfl,q _ rfl⟩
 | succ k =>
  have ha:=getElem?_eq_getElem (show k < as.length by omega)
  have hs:(pls.map (·.st))[k]?=some pls[k].st:=by rw [getElem?_map,getElem?_eq_getElem (show k < pls.length by omega)];rfl
  exact ⟨_,rfl,r,CR,dx,_,_,rfl,Y,B.cl,B.ns,ZhH,_,rfl,Z,_,_,_,rfl,rfl,SqL.of D,Zr (show (V.non::as.map V.ref)[k+1]?=some (.ref as[k]) by rw [GC,getElem?_map,ha];rfl),q _ ⟨_,_,rfl,hs,W k _ _ ha hs⟩⟩
def VO (pls:List ZE):Nat->Nat
 | 0=>0
 | k+1=>(pls.getD k ⟨0,.clr "",0,0⟩).tb
theorem XL {k:Nat}(h:k<=pls.length):(0::pls.map (·.tb))[k]?=some (VO pls k):=by
 cases k with
 | zero=>rfl
 | succ k =>
  rw [GC,getElem?_map,getElem?_eq_getElem (show k < pls.length by omega)]
  show some _=some (pls.getD k ⟨0,.clr "",0,0⟩).tb
  rw [getD_eq_getElem?_getD,getElem?_eq_getElem (show k < pls.length by omega)]
  rfl
theorem Zpl {pls:List ZE}{k:Nat}(h:k<=pls.length):(V.int 0::pls.map fun q=>V.int (q.tb:Int))[k]?=some (.int (VO pls k:Int)):=by
 have e:(V.int 0::pls.map fun q=>V.int (q.tb:Int))=(0::pls.map (·.tb)).map fun n:Nat=>V.int (n:Int):=by rw [map_cons,map_map];rfl
 rw [e,getElem?_map,XL h];rfl
inductive WM (K:Qa)(CR CS:Addr)(vs:List V)(H:Hp)(Q:VK)(w_3:XK):Prop
 | mk (r:Addr) (pls:List ZE) (nds:List Nd) (tabs:List (Zj×V)) (k:Nat):vs=[.ref r,.int (k:Int)]->RdR K CR CS r pls nds tabs H->k<=pls.length->Q (.int (VO pls k:Int)) H->WM K CR CS vs H Q w_3
abbrev nRTa:List Str:=["self","place"]
abbrev VA:List Str:=["self","place"]
theorem Zqb:Zp nRTa VA (Zk c_Roads_table):={}
theorem ZkM (F:Fun K "table" "Roads.table" c_Roads_table f fd)(T:Yl mg)(D:Xo K CR)(z:DefM P w K mg base 1 CR "check_place" ZaD (ZaG K CR CS)):FnOk P w K mg base ZJ 2 f fd VA (WM K CR CS):=by
 refine F.ok Zqb (fun Y A outer s H vs Q E Z h=>?_)
 obtain ⟨r,pls,nds,B,k,rfl,R,J,q⟩:=h
 obtain ⟨st,la,ls,lt,lc,S⟩:=id R
 obtain ⟨dx,W⟩:=S.get r
 refine' ⟨?t,?h,?r⟩
 case h =>
  conv=>arg 2;whnf
  with_reducible refine' (Ze ?h1 (Zg ?h2))
  case h1=>exact ZY (ZT z D.cl Z (pv 0) (Zb (pv 1) Za))
  case h2=>exact Zn (Zo ZD (ZS (pv 0) rfl) (pv 1) (fun _ _=>rfl))
 try dsimp only [ZR,Cx.nox]
 refine UI ?_
 intro zD zS zN1
 refine ⟨_,rfl,r,dx,_,rfl,W,Yq (by decide +kernel),_,rfl,r,pls,nds,B,k,rfl,R,J,?_⟩
 exact ⟨_,rfl,r,CR,dx,_,_,rfl,W,D.cl,D.nt,Zlq,_,rfl,lt,_,_,_,rfl,rfl,SqL.of (S.get lt),Zr (Zpl J),q⟩
def rd (pls:List ZE)(k:Nat):List Nat:=(bk pls (k+1) k).reverse
def nV (n:Nat):V:=.int (n:Int)
inductive Zfy (K:Qa)(CR CS:Addr)(vs:List V)(H:Hp)(Q:VK)(w_3:XK):Prop
 | mk (r:Addr) (pls:List ZE) (nds:List Nd) (tabs:List (Zj×V)) (k:Nat):vs=[.ref r,.int (k:Int)]->RdR K CR CS r pls nds tabs H->WfP pls->k<=pls.length->pls.length<=10000->(∀ l H',Same H H'->H l=none->H' l=some (.lst ((rd pls k).map nV))->Q (.ref l) H')->Zfy K CR CS vs H Q w_3
abbrev nRRo:List Str:=["self","place","back","at"]
abbrev ZhB:List Str:=["self","place"]
theorem scRRo:Zp nRRo ZhB (Zk c_Roads_road):={}
theorem ZkK (F:Fun K "road" "Roads.road" c_Roads_road f fd)(T:Yl mg)(TR:Xo K CR)(z:DefM P w K mg base 2 CR "ahead" Zhw (ZcV K CR CS)):FnOk P w K mg base ZJ 3 f fd ZhB (Zfy K CR CS):=by
 refine F.ok scRRo (fun cdv A outer s H vs Q E hr h=>?_)
 obtain ⟨r,pls,nds,Y,k,rfl,R,hw,hk,hpl,q⟩:=h
 refine' ⟨?t,?h,?r⟩
 case h =>
  conv=>arg 2;whnf
  with_reducible refine' (Ze ?h1 (Ze ?h2 (Ze (VB ?h3 ?h4 (Ze ?h5 (Zg ?h6))) (Zg ?h7))))
  case h1=>exact Zx (i:=2) scRRo.nd rfl (Qy rfl) (Yh Za)
  case h2=>exact Zx (i:=3) scRRo.nd rfl (Qy rfl) (pv 1)
  case h3=>exact Ga
  case h4=>exact Zfl (Znd (pv 3))
  case h5=>exact ZY (YL Qz QF QG Yp (pv 2) (Zb (pv 3) Za))
  case h6=>exact Zx (i:=3) scRRo.nd rfl (Qy rfl) (ZT z TR.cl hr (pv 0) (Zb (pv 3) Za))
  case h7=>exact Zn (Zni (pv 2))
 try dsimp only [ZR,Cx.nox]
 refine zs4 ?_
 intro zD zS zN3 zN2 zN1
 refine ⟨(by show 0<=Qi;decide),fun l hl=>⟨_,rfl,?_⟩⟩
 refine ⟨fun m σ H'=>∃ (bs:List Nat) (B:V),σ=[some (.ref r),some (.int (k:Int)),some (.ref l),some B]/\Same H H'/\H' l=some (.lst (bs.map nV))/\bs.length+m<=k+1/\((∃ j,B=.int (j:Nat)/\j<=pls.length/\m=j+1/\bs++bk pls (j+1) j=bk pls (k+1) k)\/(B=.non/\bs=bk pls (k+1) k)),
  ⟨k+1,[],_,rfl,ZC hl _,Zi,by show 0+(k+1)<=k+1;omega,.inl ⟨k,rfl,hk,rfl,rfl⟩⟩,?_⟩
 rintro m σ H2 ⟨bs,B,rfl,s2,el,hm,hc⟩
 refine ⟨_,rfl,_,rfl,?_⟩
 rcases hc with ⟨j,rfl,hj,rfl,J⟩ | ⟨rfl,rfl⟩
 ·have R2:=Up.up R s2
  obtain ⟨st,la,ls,lt,lc,S2⟩:=id R2
  obtain ⟨dx2,ob2⟩:=S2.get r
  have D:∀ c,Same H (upd H2 l c):=fun c b o e=>by rw [Zl (Zs e hl)];exact s2 _ _ e
  refine Yg ⟨_,fun σ' H' h=>h,_,rfl,.inl ⟨rfl,_,SqL.of el⟩,_,rfl,l,_,_,rfl,rfl,el,YX (show _<=20000 by rw [length_map];omega),?_⟩
  have R3:=Up.up R (D (.lst (bs.map nV++[.int (j:Int)])))
  obtain ⟨st3,la3,ls3,lt3,lc3,S3⟩:=id R3
  obtain ⟨Z,ob3⟩:=S3.get r
  refine ⟨_,rfl,r,Z,_,rfl,ob3,Yq (by decide +kernel),_,rfl,r,pls,nds,Y,j,rfl,R3,hj,?_⟩
  have eb:upd H2 l (.lst (bs.map nV++[.int (j:Int)])) l=some (.lst ((bs++[j]).map nV)):=by rw [Zi,map_append];rfl
  cases j with
  | zero=>exact ⟨0,by omega,bs++[0],_,rfl,D _,eb,by rw [length_append];show bs.length+1+0<=k+1;omega,.inr ⟨rfl,J⟩⟩
  | succ j =>
   have ha:=hw.at (show j < pls.length by omega)
   refine ⟨(pls.getD j ⟨0,.clr "",0,0⟩).ah+1,by omega,bs++[j+1],_,rfl,D _,eb,by rw [length_append];show bs.length+1+_<=k+1;omega,.inl ⟨_,rfl,by omega,rfl,?_⟩⟩
   rw [append_assoc,<- J]
   show bs++(j+1)::bk pls _ _=bs++(j+1)::bk pls (j+1) _
   rw [ZcE hw _ (by omega) (j+1) (by omega)]
 ·refine ZN ⟨_,rfl,l,_,rfl,SqL.of el,fun l2 W=>?_⟩
  refine q l2 _ (fun b o e=>?_) ?_ ?_
  ·rw [Zl (Zs (s2 _ _ e) W)];exact s2 _ _ e
  ·exact UH s2 W
  ·rw [Zi,<- List.map_reverse];rfl
end
inductive Way (nds:List Nd)(m:Int):Nat->Nat->List Nat->Prop
 | stop {lev num:Nat} {n:Nd}:nds[num]?=some n->(∀ qs,n≠.fork qs)->Way nds m lev num [num]
 | go {lev num q:Nat} {qs ws:List Nat}:nds[num]?=some (.fork qs)->qs[Zu m lev]?=some q->Way nds m (lev+1) q ws->Way nds m lev num (num::ws)
theorem Way.mono {m:Int}{lev z:Nat}(e:NEx nds nds')(h:Way nds m lev z B):Way nds' m lev z B:=by
 induction h with
 | stop h1 h2=>exact .stop (e _ _ h1) h2
 | go h1 h2 _ ih=>exact .go (e _ _ h1) h2 ih
theorem Way.ne {m:Int}{lev z:Nat}(h:Way nds m lev z B):B≠[]:=by
 cases h<;>exact List.cons_ne_nil _ _
theorem Way.at {m:Int}{lev z:Nat}{n:Nd}(h:Way nds m lev z B)(e:nds[z]?=some n)(D:∀ qs,n≠.fork qs):B=[z]:=by
 cases h with
 | stop=>rfl
 | go h1=>rw [e] at h1;cases h1;exact absurd rfl (D _)
theorem Way.fork {m:Int}{lev z q:Nat}(h:Way nds m lev z D)(e:nds[z]?=some (.fork qs))(J:qs[Zu m lev]?=some q):∃ B,D=z::B/\Way nds m (lev+1) q B:=by
 cases h with
 | stop h1 h2=>rw [e] at h1;cases h1;exact absurd rfl (h2 _)
 | go h1 h2 h3=>rw [e] at h1;cases h1;rw [J] at h2;cases h2;exact ⟨_,rfl,h3⟩
theorem ZfH {m:Int}:∀{f lev B:Nat}{D:List Nat},Xb nds m f lev B=some D->Way nds m lev B D
 | 0,_,_,_,h=>by cases h
 | f + 1,lev,B,D,h=>by
  unfold Xb at h
  cases e:nds[B]? with
  | none=>rw [e] at h;cases h
  | some n =>
   rw [e] at h
   cases n with
   | fork qs =>
    have h':((qs[Zu m lev]?).bind fun q=>(Xb nds m f (lev+1) q).map (B::·))=some D:=h
    cases e2:qs[Zu m lev]? with
    | none=>rw [e2] at h';cases h'
    | some q =>
     rw [e2] at h'
     have h2:(Xb nds m f (lev+1) q).map (B::·)=some D:=h'
     cases e3:Xb nds m f (lev+1) q with
     | none=>rw [e3] at h2;cases h2
     | some w1 =>
      rw [e3] at h2
      cases (show some (B::w1)=some D from h2)
      exact .go e e2 (ZfH e3)
   | bare=>cases (show some [B]=some D from h);exact .stop e (fun qs z=>by cases z)
   | leaf m' ps=>cases (show some [B]=some D from h);exact .stop e (fun qs z=>by cases z)
def UP (ps:List Nat)(d:Nat):List Nat:=ps.take d++ps.drop (d+1)
theorem Zkw (ps:List Nat)(d v:Nat):UP (ps.set d v) d=UP ps d:=by
 unfold UP
 rw [List.take_set_of_le (Qe _),List.drop_set_of_lt (GN _)]
def OffW (nds:List Nd)(s lev:Nat)(m:Int)(ow:List Nat):Prop :=
 nds[s]?=some (.fork ow)\/∃ m' ps,nds[s]?=some (.leaf m' ps)/\ow=if Zu m' lev=Zu m lev then [0,0,0,0] else [0,0,0,0].set (Zu m' lev) s
theorem Zkx {z lev:Nat}{m B:Int}:UP (Yn z lev (.leaf B ps)) (Zu m lev)=UP (if Zu B lev=Zu m lev then [0,0,0,0] else [0,0,0,0].set (Zu B lev) z) (Zu m lev):=by
 have h1:=Xe m lev
 have h2:=Xe B lev
 show UP ([0,1,2,3].map fun g=>if g=Zu B lev then z else 0) (Zu m lev)=_
 generalize Zu m lev=a at *
 generalize Zu B lev=b at *
 have D:a=0\/a=1\/a=2\/a=3:=by omega
 have J:b=0\/b=1\/b=2\/b=3:=by omega
 rcases D with rfl | rfl | rfl | rfl<;>rcases J with rfl | rfl | rfl | rfl<;>rfl
def Md (x:Str)(nds nds':List Nd)(lev num':Nat)(os:List Nat):Prop:=∃(ws:List Nat)(e:Nat)(n:Nd),Way nds' (Zh x) lev num' (ws++[e])/\nds'[e]?=some n/\(∀ qs,n≠.fork qs) /\
 ws++(if n.hasM (Zh x)=true then [e] else [])=(ME nds.length (nds'.length - nds.length)).reverse/\nds.length<=nds'.length /\
 ∀ (i w:Nat),ws[i]?=some w->∃ ps s ow,nds'[w]?=some (.fork ps)/\os[min i (os.length - 1)]?=some s/\OffW nds s (lev+i) (Zh x) ow/\UP ps (Zu (Zh x) (lev+i))=UP ow (Zu (Zh x) (lev+i))
theorem ZoU {L k:Nat}(h:L<=k):k::(ME L (k - L)).reverse=(ME L (k+1 - L)).reverse:=by
 rw [show k+1 - L=(k - L)+1 by omega,List.range'_1_concat,OF]
 rw [show L+(k - L)=k by omega];rfl
theorem Md.up {x:Str}{nds z:List Nd}{lev D q B:Nat}{ps fp:List Nat}{ow os os1:List Nat}(M:Md x nds z (lev+1) B os1)(hq:fp[Zu (Zh x) lev]?=some q)(hs:os[0]?=some D)(ho:OffW nds D lev (Zh x) ow)(he:UP fp (Zu (Zh x) lev)=UP ow (Zu (Zh x) lev))
 (hos:∀ (i:Nat) (w s:Nat),(∃ J e,Way z (Zh x) (lev+1) B (J++[e])/\J[i]?=some w)->os1[min i (os1.length - 1)]?=some s->os[min (i+1) (os.length - 1)]?=some s):Md x nds (z++[.fork (fp.set (Zu (Zh x) lev) B)]) lev z.length os:=by
 obtain ⟨J,e,n,W,hn,hf,hr,Z,hp⟩:=M
 have ex:=NEx.app z (.fork (fp.set (Zu (Zh x) lev) B))
 have top:(z++[Nd.fork (fp.set (Zu (Zh x) lev) B)])[z.length]?=some (.fork (fp.set (Zu (Zh x) lev) B)):=by rw [getElem?_append_right (Qe _),QZ];rfl
 refine ⟨z.length::J,e,n,.go top (by rw [GH (Qg.mp hq).1]) (W.mono ex),ex _ _ hn,hf,?_,?_,fun i w hw=>?_⟩
 ·rw [PV,hr,length_append];exact ZoU Z
 ·rw [length_append];exact Qr Z (Jp _ _)
 ·cases i with
  | zero =>
   cases (show some z.length=some w from hw)
   exact ⟨_,D,ow,top,by rw [Nat.zero_min];exact hs,ho,by rw [Nat.add_zero,Zkw];exact he⟩
  | succ i =>
   have Y:J[i]?=some w:=hw
   obtain ⟨ps,s,ow',h1,h2,h3,h4⟩:=hp i w Y
   rw [show lev+(i+1)=lev+1+i by omega]
   exact ⟨ps,s,ow',ex _ _ h1,hos i w s ⟨J,e,W,Y⟩ h2,h3,h4⟩
theorem ZiQ {z i s:Nat}(B:os1≠[])(h:os1[min i (os1.length - 1)]?=some s):(z::os1)[min (i+1) ((z::os1).length - 1)]?=some s:=by
 have D:=length_pos_iff.mpr B
 rw [show min (i+1) ((z::os1).length - 1)=min i (os1.length - 1)+1 by rw [length_cons];omega]
 exact h
theorem PutR.made {lev B num':Nat}(h0:nds[0]?=some .bare)(h:PutR x v nds lev B nds' num'):∀{os:List Nat},Way nds (Zh x) lev B os->Md x nds nds' lev num' os:=by
 induction h with
 | @leaf lev B n qs hn hc hp hs =>
  intro os _
  have top:(nds++[Nd.leaf (Zh x) qs])[nds.length]?=some (.leaf (Zh x) qs):=by rw [getElem?_append_right (Qe _),QZ];rfl
  refine ⟨[],nds.length,.leaf (Zh x) qs,.stop top (fun qs z=>by cases z),top,(fun qs z=>by cases z),?_,by rw [length_append];exact Jp _ _,fun i w h=>by simp at h⟩
  have hM:(Nd.leaf (Zh x) qs).hasM (Zh x)=true:=decide_eq_true rfl
  rw [if_pos hM,length_append,show nds.length+[Nd.leaf (Zh x) qs].length - nds.length=1 by simp];rfl
 | @fork nds1 lev B q1 num1 n hn hz hm hq hr ih =>
  intro os hw
  cases n with
  | bare=>simp [Yn] at hq
  | fork qs =>
   obtain ⟨os1,rfl,Y⟩:=hw.fork hn hq
   exact Md.up (ps:=[]) (ih Y) hq rfl (.inl hn) rfl fun i w s _ h=>ZiQ Y.ne h
  | leaf m' ps =>
   have Z:=hw.at hn (fun qs z=>by cases z)
   subst Z
   have D:q1=B\/q1=0:=by
    have:=mem_of_getElem? hq
    obtain ⟨g,_,e⟩:=mem_map.mp this
    split at e
    ·exact .inl e.symm
    ·exact .inr e.symm
   refine Md.up (ps:=[]) (os1:=[q1]) (ih ?_) hq rfl (.inr ⟨m',ps,hn,rfl⟩) Zkx fun i w s hx h=>?_
   ·rcases D with z | z
    ·rw [z];exact .stop hn (fun qs z=>by cases z)
    ·rw [z];exact .stop h0 (fun qs z=>by cases z)
   ·rcases D with z | z
    ·rw [z] at h
     rw [show min i ([B].length - 1)=0 by simp] at h
     rw [show min (i+1) ([B].length - 1)=0 by simp]
     exact h
    ·obtain ⟨ws,e,W,J⟩:=hx
     rw [z] at hr
     cases hr with
     | leaf _ _ _ _ =>
      have:=W.at (n:=.leaf (Zh x) _) (by rw [getElem?_append_right (Qe _),QZ];rfl) (fun qs z=>by cases z)
      have:ws=[]:=by
       cases ws with
       | nil=>rfl
       | cons a r=>have h9:=congrArg GX this;simp at h9
      rw [this] at J;simp at J
     | fork _ h2=>exact absurd rfl h2
theorem TakR.made {lev D num':Nat}(N:ZZ NS)(hx:x∈NS)(h0:nds[0]?=some .bare)(h:TakR x nds lev D nds' num'):∀{d r:Nat}{F:Str->Option V},Tri NS nds F d lev r D->r < 4 ^ lev->Yf x % 4 ^ lev=r->∀{os:List Nat},Way nds (Zh x) lev D os->Md x nds nds' lev num' os:=by
 induction h with
 | @gone lev D ps hn hb =>
  intro d r F _ _ _ os _
  exact ⟨[],0,.bare,.stop h0 (fun qs z=>by cases z),h0,(fun qs z=>by cases z),by rw [QZ];rfl,Qe _,fun i w h=>by simp at h⟩
 | @less lev D ps qs hn hb hp hs =>
  intro d r F _ _ _ os _
  have top:(nds++[Nd.leaf (Zh x) qs])[nds.length]?=some (.leaf (Zh x) qs):=by rw [getElem?_append_right (Qe _),QZ];rfl
  refine ⟨[],nds.length,.leaf (Zh x) qs,.stop top (fun qs z=>by cases z),top,(fun qs z=>by cases z),?_,by rw [length_append];exact Jp _ _,fun i w h=>by simp at h⟩
  have hM:(Nd.leaf (Zh x) qs).hasM (Zh x)=true:=decide_eq_true rfl
  rw [if_pos hM,length_append,show nds.length+[Nd.leaf (Zh x) qs].length - nds.length=1 by simp];rfl
 | @up nds1 lev D q1 num1 q qs m ps hn hq hr hf hl ih =>
  intro d r F Z hlt Y os hw
  obtain ⟨J,hn',hlen,parts,d',hd'⟩:∃ J,nds[D]?=some (.fork J)/\J.length=4/\∃ d',(∀ i q,J[i]?=some q->Tri NS nds F d' (lev+1) (r+i * 4 ^ lev) q)/\d=d'+1:=by
   cases d with
   | zero =>
    rcases Z with ⟨_,z,_⟩ | ⟨_,_,z,_⟩
    ·rw [hn] at z;cases z
    ·rw [hn] at z;cases z
   | succ d =>
    rcases Z with (⟨_,z,_⟩ | ⟨_,_,z,_⟩) | ⟨J,h1,h2,h3⟩
    ·rw [hn] at z;cases z
    ·rw [hn] at z;cases z
    ·exact ⟨J,h1,h2,d,h3,rfl⟩
  rw [hn] at hn'
  cases hn'
  obtain ⟨os1,rfl,hw1⟩:=hw.fork hn hq
  have B:Yf x % 4 ^ (lev+1)=r+Zu (Zh x) lev * 4 ^ lev:=by rw [Xw,Y,YE (N.lo x hx)];rfl
  obtain ⟨ws,e,n,W,hne,hnf,hrg,hle,hp⟩:=ih (d' _ _ hq) (Xg hlt (Xe _ _)) B hw1
  have hin:q∈qs.set (Zu (Zh x) lev) num1/\q≠0:=by
   have:q∈(qs.set (Zu (Zh x) lev) num1).filter fun p=>!decide (p=0):=by rw [hf];exact mem_cons_self
   obtain ⟨h1,h2⟩:=mem_filter.mp this
   exact ⟨h1,fun z=>by rw [z] at h2;simp at h2⟩
  by_cases hz:num1=0
  ·subst hz
   have hb1:nds1[0]?=some .bare:=hr.ext _ _ h0
   have hW:=W.at hb1 (fun qs z=>by cases z)
   have hws:ws=[]/\e=0:=by
    cases ws with
    | nil=>exact ⟨rfl,by simpa using hW⟩
    | cons a r=>have h9:=congrArg GX hW;simp at h9
   obtain ⟨rfl,rfl⟩:=hws
   rw [hb1] at hne
   cases hne
   have hlen0:nds1.length - nds.length=0:=by
    have h9:=congrArg GX hrg
    rw [length_reverse,Np] at h9
    exact h9.symm
   obtain ⟨j,hj⟩:=mem_iff_getElem?.mp hin.1
   have hjd:j≠Zu (Zh x) lev:=fun z=>by
    rw [z,GH (Qg.mp hq).1] at hj
    exact hin.2 (Qo hj).symm
   rw [Tc (fun z=>hjd z.symm)] at hj
   have hql:q < nds.length:=by have:=(Qg.mp hl).1;omega
   have hlo:nds[q]?=some (.leaf m ps):=by
    have h8:=getElem?_eq_getElem hql
    have h9:=hr.ext _ _ h8
    rw [hl] at h9
    rw [h8];exact h9.symm
   have hmm:m≠Zh x:=fun z=>by
    have tj:=d' j q hj
    have key:∃ m2 ps2,nds[q]?=some (.leaf m2 ps2)/\m2.toNat % 4 ^ (lev+1)=r+j * 4 ^ lev:=by
     have te:TriE NS nds F (lev+1) (r+j * 4 ^ lev) q:=by
      cases parts with
      | zero=>exact tj
      | succ p =>
       rcases tj with tj | ⟨_,z2,_⟩
       ·exact tj
       ·rw [hlo] at z2;cases z2
     rcases te with ⟨_,z2,_⟩ | ⟨m2,ps2,z2,_,z3,_⟩
     ·rw [hlo] at z2;cases z2
     ·exact ⟨m2,ps2,z2,z3⟩
    obtain ⟨m2,ps2,z2,z3⟩:=key
    rw [hlo] at z2
    cases z2
    rw [z] at z3
    have z4:Yf x % 4 ^ (lev+1)=r+j * 4 ^ lev:=z3
    rw [B] at z4
    have hp4:0 < 4 ^ lev:=Nat.pow_pos (by decide)
    have:Zu (Zh x) lev * 4 ^ lev=j * 4 ^ lev:=by omega
    exact hjd (Sa hp4 this).symm
   refine ⟨[],q,.leaf m ps,.stop hl (fun qs z=>by cases z),hl,(fun qs z=>by cases z),?_,hle,fun i w h=>by simp at h⟩
   have hM:¬ (Nd.leaf m ps).hasM (Zh x)=true:=fun z=>hmm (of_decide_eq_true z)
   rw [if_neg hM,hlen0];rfl
  ·have hmem:num1∈(qs.set (Zu (Zh x) lev) num1).filter fun p=>!decide (p=0):=by
    rw [mem_filter]
    refine ⟨mem_of_getElem? (GH (Qg.mp hq).1),by simp [hz]⟩
   rw [hf] at hmem
   have hqn:num1=q:=mem_singleton.mp hmem
   subst hqn
   have hW:=W.at hl (fun qs z=>by cases z)
   have hws:ws=[]/\e=num1:=by
    cases ws with
    | nil=>exact ⟨rfl,by simpa using hW⟩
    | cons a r=>have h9:=congrArg GX hW;simp at h9
   obtain ⟨rfl,rfl⟩:=hws
   exact ⟨[],e,n,.stop hne hnf,hne,hnf,hrg,hle,fun i w h=>by simp at h⟩
 | @fork nds1 lev D q1 num1 qs hn hq hr hf ih =>
  intro d r F Z hlt Y os hw
  obtain ⟨d',tq⟩:∃ d',Tri NS nds F d' (lev+1) (r+Zu (Zh x) lev * 4 ^ lev) q1:=by
   cases d with
   | zero =>
    rcases Z with ⟨_,z,_⟩ | ⟨_,_,z,_⟩
    ·rw [hn] at z;cases z
    ·rw [hn] at z;cases z
   | succ d =>
    rcases Z with (⟨_,z,_⟩ | ⟨_,_,z,_⟩) | ⟨J,h1,h2,h3⟩
    ·rw [hn] at z;cases z
    ·rw [hn] at z;cases z
    ·rw [hn] at h1;cases h1;exact ⟨d,h3 _ _ hq⟩
  obtain ⟨os1,rfl,hw1⟩:=hw.fork hn hq
  have B:Yf x % 4 ^ (lev+1)=r+Zu (Zh x) lev * 4 ^ lev:=by rw [Xw,Y,YE (N.lo x hx)];rfl
  exact Md.up (ps:=[]) (ih tq (Xg hlt (Xe _ _)) B hw1) hq rfl (.inl hn) rfl fun i w s _ h=>ZiQ hw1.ne h
def Uq (m:Int)(j:Nat):Int:=m / 4 ^ j % 4
def XG (own:Int):Nat->Nat->List Int->Nat×List Int
 | 0,j,l=>(j,l)
 | f+1,j,l=>if 1 < l.length then XG own f (j+1) (l.filter fun m=>decide (Uq m j=Uq own j)) else (j,l)
def Zar (NS:List Str)(F:Str->Option V)(lev r:Nat)(l:List Int):Prop:=l.Nodup/\∀ m:Int,m∈l↔∃ y∈NS,F y≠none/\Zh y=m/\Yf y % 4 ^ lev=r
theorem ZdD {d lev r q:Nat}(J:nds[0]?=some .bare)(t:Tri NS nds F d lev r q)(c:Can nds d q)(D:r < 4 ^ lev)(Y:q≠0):∃ y∈NS,F y≠none/\Yf y % 4 ^ lev=r:=by
 apply Sg
 intro z
 refine Y (Zkc J t c D fun x W B=>?_)
 apply Sg
 intro y
 exact z ⟨x,W,y,B⟩
theorem Zpo (h:2<=(Yw qs).length):∃ i j q B:Nat,i≠j/\qs[i]?=some q/\qs[j]?=some B/\q≠0/\B≠0:=by
 induction qs with
 | nil=>simp [Yw] at h
 | cons a r ih =>
  by_cases z:a=0
  ·obtain ⟨i,j,q,B,h1,h2,h3,J,Y⟩:=ih (by rw [WC,if_pos z] at h;exact h)
   exact ⟨i+1,j+1,q,B,by omega,h2,h3,J,Y⟩
  ·have h1:1<=(Yw r).length:=by rw [WC,if_neg z] at h;omega
   obtain ⟨B,D⟩:=List.exists_mem_of_length_pos h1
   obtain ⟨Z,W⟩:=fil_mem.mp D
   obtain ⟨j,hj⟩:=mem_iff_getElem?.mp Z
   exact ⟨0,j+1,a,B,by omega,rfl,hj,z,W⟩
theorem Zkj (h0:nds[0]?=some .bare):∀{d lev r B:Nat}{qs:List Nat},Tri NS nds F d lev r B->Can nds d B->r < 4 ^ lev->nds[B]?=some (.fork qs) ->
 ∃ y∈NS,∃ J∈NS,F y≠none/\F J≠none/\Yf y % 4 ^ lev=r/\Yf J % 4 ^ lev=r/\Zh y≠Zh J:=by
 intro d
 induction d with
 | zero =>
  intro lev r B qs t _ _ D
  rcases t with ⟨_,h,_⟩ | ⟨m,ps,h,_⟩<;>· rw [D] at h;cases h
 | succ d ih =>
  intro lev r B qs t c Y D
  rcases t with (⟨_,h,_⟩ | ⟨m,ps,h,_⟩) | ⟨qs',h1,h2,h3⟩
  ·rw [D] at h;cases h
  ·rw [D] at h;cases h
  ·rw [D] at h1;cases h1
   rcases c with (z | ⟨m,ps,z⟩) | ⟨qs',z1,z2,z3⟩
   ·rw [z,h0] at D;cases D
   ·rw [D] at z;cases z
   ·rw [D] at z1;cases z1
    rcases z3 with z | ⟨q,qs2,z,hq2⟩
    ·obtain ⟨i,j,q,q',hij,hi,hj,hq,hq'⟩:=Zpo z
     have W:i < 4:=by rw [<- h2];exact (Qg.mp hi).1
     have hj4:j < 4:=by rw [<- h2];exact (Qg.mp hj).1
     obtain ⟨y,hy,hyF,hyr⟩:=ZdD h0 (h3 i q hi) (z2 q (mem_of_getElem? hi)) (Xg Y W) hq
     obtain ⟨J,Z,hyF',hyr'⟩:=ZdD h0 (h3 j q' hj) (z2 q' (mem_of_getElem? hj)) (Xg Y hj4) hq'
     have e1:=YR Y hyr
     have e2:=YR Y hyr'
     refine ⟨y,hy,J,Z,hyF,hyF',e1.1,e2.1,fun e=>hij ?_⟩
     have:Yf y=Yf J:=by unfold Yf;rw [e]
     rw [<- e1.2,<- e2.2,this]
    ·have hm:=fil_mem.mp (show q∈Yw qs by rw [z];exact mem_cons_self)
     obtain ⟨i,hi⟩:=mem_iff_getElem?.mp hm.1
     have W:i < 4:=by rw [<- h2];exact (Qg.mp hi).1
     obtain ⟨y,hy,J,Z,a1,a2,a3,a4,a5⟩:=ih (h3 i q hi) (z2 q hm.1) (Xg Y W) hq2
     exact ⟨y,hy,J,Z,a1,a2,(YR Y a3).1,(YR Y a4).1,a5⟩
theorem Vr {m:Int}(h:0<=m)(j:Nat):Uq m j=((m.toNat / 4 ^ j % 4:Nat):Int):=by
 have:=Wg m j
 rw [YE h] at this
 exact this.symm
theorem Zmx (N:ZZ NS)(hx:x∈NS)(h0:nds[0]?=some .bare):∀{d lev r B:Nat}{D:List Nat}{e:Nat}{n:Nd}{l:List Int},Tri NS nds F d lev r B->Can nds d B->r < 4 ^ lev->Yf x % 4 ^ lev=r ->
 Way nds (Zh x) lev B (D++[e])->nds[e]?=some n->(∀ qs,n≠.fork qs)->Zar NS F lev r l->(XG (Zh x) d lev l).1=lev+D.length/\((XG (Zh x) d lev l).2=[Zh x]↔n.hasM (Zh x)=true):=by
 have stop : ∀ {d lev r B:Nat} {D:List Nat} {e:Nat} {n:Nd} {l:List Int},TriE NS nds F lev r B->Way nds (Zh x) lev B (D++[e])->nds[e]?=some n->Zar NS F lev r l->(XG (Zh x) d lev l).1=lev+D.length/\((XG (Zh x) d lev l).2=[Zh x]↔n.hasM (Zh x)=true):=by
  intro d lev r B D e n l t W Y Z
  have lone:l.length<=1->XG (Zh x) d lev l=(lev,l):=fun hle=>by
   cases d with
   | zero=>rfl
   | succ d=>unfold XG;rw [if_neg (by omega)]
  rcases t with ⟨z,hb,hF⟩ | ⟨m,ps,hb,G,hm,hF⟩
  ·have hw:=W.at hb (fun qs z=>by cases z)
   have hws:D=[]/\e=B:=by
    cases D with
    | nil=>exact ⟨rfl,by simpa using hw⟩
    | cons a r=>simp at hw
   obtain ⟨rfl,rfl⟩:=hws
   rw [hb] at Y;cases Y
   have hl0:l=[]:=by
    cases l with
    | nil=>rfl
    | cons m r =>
     obtain ⟨y,hy,h1,_,h3⟩:=(Z.2 m).mp mem_cons_self
     exact absurd (hF y hy h3) h1
   subst hl0
   rw [lone (by simp)]
   exact ⟨rfl,fun z=>(by cases z),fun z=>(by cases z)⟩
  ·have hw:=W.at hb (fun qs z=>by cases z)
   have hws:D=[]/\e=B:=by
    cases D with
    | nil=>exact ⟨rfl,by simpa using hw⟩
    | cons a r=>simp at hw
   obtain ⟨rfl,rfl⟩:=hws
   rw [hb] at Y;cases Y
   have key:∀ m',m'∈l↔m'=m:=fun m'=>by
    rw [Z.2 m']
    constructor
    ·rintro ⟨y,hy,h1,rfl,h3⟩
     rw [hF y hy h3] at h1
     cases e9:lk ps y with
     | none=>exact absurd e9 h1
     | some v=>exact G.mrk (y,v) ((YC G.nd).mp e9)
    ·rintro rfl
     cases ps with
     | nil=>exact absurd rfl G.ne
     | cons p pr =>
      have h2:=G.sub p mem_cons_self
      have h3:=G.mrk p mem_cons_self
      have h4:Yf p.1 % 4 ^ lev=r:=by unfold Yf;rw [h3];exact hm
      refine ⟨p.1,h2,?_,h3,h4⟩
      rw [hF p.1 h2 h4,Wh,if_pos rfl]
      intro z;cases z
   have hl1:l=[m]:=by
    cases l with
    | nil=>exact absurd ((key m).mpr rfl) (by simp)
    | cons a r =>
     have ha:=(key a).mp mem_cons_self
     cases r with
     | nil=>rw [ha]
     | cons b r =>
      have hb:=(key b).mp (mem_cons_of_mem _ mem_cons_self)
      have:=Z.1
      rw [ha,hb] at this
      simp at this
   subst hl1
   rw [lone (by simp)]
   refine ⟨rfl,?_⟩
   show [m]=[Zh x]↔decide (m=Zh x)=true
   rw [decide_eq_true_eq]
   exact ⟨fun z=>by cases z;rfl,fun z=>by rw [z]⟩
 intro d
 induction d with
 | zero=>intro lev r B D e n l t _ _ _ W Y _ Z;exact stop t W Y Z
 | succ d ih =>
  intro lev r B D e n l t c hr hxr W Y hn Z
  rcases id t with h | ⟨qs,h1,h2,h3⟩
  ·exact stop h W Y Z
  ·obtain ⟨y,hy,y',hy',a1,a2,a3,a4,a5⟩:=Zkj h0 t c hr h1
   have hlen:1 < l.length:=by
    have m1:=(Z.2 (Zh y)).mpr ⟨y,hy,a1,rfl,a3⟩
    have m2:=(Z.2 (Zh y')).mpr ⟨y',hy',a2,rfl,a4⟩
    match l,m1,m2 with
    | [],m1,_=>simp at m1
    | [b],m1,m2=>exact absurd ((mem_singleton.mp m1).trans (mem_singleton.mp m2).symm) a5
    | _::_::_,_,_=>simp
   have J:=N.lo x hx
   have hd4:=Xe (Zh x) lev
   obtain ⟨q,hq⟩:∃ q,qs[Zu (Zh x) lev]?=some q:=⟨_,getElem?_eq_getElem (by rw [h2];exact hd4)⟩
   obtain ⟨ws1,ew,W1⟩:=W.fork h1 hq
   obtain ⟨ws2,rfl,ew2⟩:∃ ws2,D=B::ws2/\ws1=ws2++[e]:=by
    cases D with
    | nil =>
     exfalso
     have:B=e:=by simpa using (JT ew).1.symm
     rw [<- this,h1] at Y;cases Y
     exact hn _ rfl
    | cons a r=>obtain ⟨rfl,e2⟩:=JT ew;exact ⟨r,rfl,e2.symm⟩
   subst ew2
   have hr2:=Xg hr hd4
   have hxd:Yf x % 4 ^ (lev+1)=r+Zu (Zh x) lev * 4 ^ lev:=by
    rw [YE J,RE,MD,hxr]
    unfold Yf
    rw [Rw]
   rcases c with (z | ⟨m,ps,z⟩) | ⟨qs',z1,z2,z3⟩
   ·rw [z,h0] at h1;cases h1
   ·rw [h1] at z;cases z
   ·rw [h1] at z1;cases z1
    have g:=ih (l:=l.filter fun m=>decide (Uq m lev=Uq (Zh x) lev)) (h3 _ q hq) (z2 q (mem_of_getElem? hq)) hr2 hxd W1 Y hn ⟨Z.1.sublist Tu,fun m=>?_⟩
    ·have e5:XG (Zh x) (d+1) lev l=XG (Zh x) d (lev+1) (l.filter fun m=>decide (Uq m lev=Uq (Zh x) lev)):=by
      show (if 1 < l.length then _ else _)=_
      rw [if_pos hlen]
     rw [e5,g.1]
     exact ⟨by rw [length_cons];omega,g.2⟩
    ·rw [mem_filter,Z.2 m,decide_eq_true_eq]
     constructor
     ·rintro ⟨⟨u,hu,b1,rfl,b3⟩,b4⟩
      refine ⟨u,hu,b1,rfl,?_⟩
      have hlu:=N.lo u hu
      rw [Vr hlu,Vr J] at b4
      rw [RE,MD,b3,YE J]
      show r+4 ^ lev * ((Zh u).toNat / 4 ^ lev % 4)=_
      rw [Int.ofNat.inj b4,Rw]
     ·rintro ⟨u,hu,b1,rfl,b3⟩
      have hlu:=N.lo u hu
      obtain ⟨b5,b6⟩:=YR hr b3
      refine ⟨⟨u,hu,b1,rfl,b5⟩,?_⟩
      rw [Vr hlu,Vr J]
      rw [YE J] at b6
      exact congrArg Int.ofNat b6
def Zmh:Stp->(Str->Option V)->Prop
 | .set x v,F=>F x=some v
 | .clr x,F=>F x=none
theorem NEx.len (h:NEx nds nds'):nds.length<=nds'.length:=by
 cases e:nds.length with
 | zero=>omega
 | succ n =>
  have z:n < nds.length:=by omega
  have:=(Qg.mp (h n _ (getElem?_eq_getElem z))).1
  omega
def Zbu (NS:List Str)(s:Stp)(F:Str->Option V)(c:Nat):Prop:=∀ l,Zar NS (s.ap F) 0 0 l->c=if F s.nm=s.ap F s.nm then 0 else (XG (Zh s.nm) 5 0 l).1+if (XG (Zh s.nm) 5 0 l).2=[Zh s.nm] then 1 else 0
theorem ZfY {s:Stp}{c:Nat}(h:F s.nm=s.ap F s.nm)(z:c=0):Zbu NS s F c:=fun l _=>by rw [if_pos h];exact z
theorem ZfZ {s:Stp}{c:Nat}(h:¬ F s.nm=s.ap F s.nm)(z:∀ l,Zar NS (s.ap F) 0 0 l->c=(XG (Zh s.nm) 5 0 l).1+if (XG (Zh s.nm) 5 0 l).2=[Zh s.nm] then 1 else 0):Zbu NS s F c:=fun l B=>by rw [if_neg h];exact z l B
theorem Zgn {t:Nat}{os l:List Int}(N:ZZ NS)(hx:x∈NS)(h0:nds'[0]?=some .bare)(D:Tri NS nds' F 5 0 0 t)(can:Can nds' 5 t)(M:Md x nds nds' 0 t ow)(hl:Zar NS F 0 0 l):
 nds'.length - nds.length=(XG (Zh x) 5 0 l).1+if (XG (Zh x) 5 0 l).2=[Zh x] then 1 else 0:=by
 obtain ⟨ws,e,n,W,hn,Y,hr,Z,_⟩:=M
 obtain ⟨g1,J⟩:=Zmx N hx h0 D can (by decide) (by rw [Ja,Ju]) W hn Y hl
 have B:=congrArg GX hr
 rw [length_append,length_reverse,Np] at B
 rw [g1,<- B]
 by_cases z:n.hasM (Zh x)=true
 ·rw [if_pos z,if_pos (J.mpr z)];simp
 ·rw [if_neg z,if_neg fun y=>z (J.mp y)];simp
structure RInv (NS:List Str)(pls:List ZE)(nds:List Nd)(tabs:List (Zj×V)):Prop where
 wf:WfP pls
 cn:∀ (k t:Nat),(0::pls.map (·.tb))[k]?=some t->Can nds 5 t
 vt:∀ (k:Nat) (q:ZE) (F:Str->Option V) (t:Nat),pls[k]?=some q->(envs pls)[q.ah]?=some F->(0::pls.map (·.tb))[q.ah]?=some t->Zmh q.st F->q.tb=t
 tr:∀ (k:Nat) (F:Str->Option V) (t:Nat),(envs pls)[k]?=some F->(0::pls.map (·.tb))[k]?=some t->(ZG tabs (QD (t:Int))).isSome=true/\Tri NS nds F 5 0 0 t/\∀ x u,F x=some u->IsVal u
 co:∀ (k:Nat) (q:ZE) (F:Str->Option V),pls[k]?=some q->(envs pls)[q.ah]?=some F->Zbu NS q.st F q.co
 nm:∀ q∈pls,q.co<=6
theorem Ui (h:IsVal v):ValV v:=by
 cases v<;>first | trivial | exact h.elim
theorem RInv.app (I:RInv NS pls nds tabs){q:ZE}(hk:q.ah<=pls.length)(hF:(envs pls)[q.ah]?=some F)(ext:NEx nds nds')(mono:∀ k,(ZG tabs k).isSome=true->(ZG J k).isSome=true)(ht:(ZG J (QD (q.tb:Int))).isSome=true)(tri:Tri NS nds' (q.st.ap F) 5 0 0 q.tb)(hv:∀ x v,q.st=.set x v->IsVal v)(hc:Can nds' 5 q.tb)(hvt:Zmh q.st F->q.tb=VO pls q.ah)(hco:Zbu NS q.st F q.co)(hnm:q.co<=6):RInv NS (pls++[q]) nds' J:=by
 have hfv:=(I.tr q.ah F _ hF (XL hk)).2.2
 have tbA:∀ {j t:Nat},j<=pls.length->(0::(pls++[q]).map (·.tb))[j]?=some t->(0::pls.map (·.tb))[j]?=some t:=fun {j t} hj e=>by
  rw [map_append,<- PV,getElem?_append_left (by rw [length_cons,length_map];omega)] at e;exact e
 have W:∀ {j:Nat} {G:Str->Option V},j<=pls.length->(envs (pls++[q]))[j]?=some G->(envs pls)[j]?=some G:=fun {j G} hj e=>by
  rw [XE,getElem?_append_left (by rw [Xf];omega)] at e;exact e
 have Y:∀ {k:Nat} {p:ZE},¬ k < pls.length->(pls++[q])[k]?=some p->k=pls.length/\q=p:=fun {k p} h e=>by
  rw [getElem?_append_right (by omega)] at e
  have hz:k - pls.length=0:=by
   cases z:k - pls.length with
   | zero=>rfl
   | succ j=>rw [z] at e;simp at e
  rw [hz] at e
  exact ⟨by omega,Qo e⟩
 refine ⟨fun k p e=>?_,fun k t e=>?_,fun k p G t e1 Z e3 hs=>?_,fun k G t e1 Z=>?_,fun k p G e1 Z=>?_,?_⟩
 case refine_5 =>
  by_cases h:k < pls.length
  ·rw [getElem?_append_left h] at e1
   have hw:=I.wf k p e1
   exact I.co k p G e1 (W (by omega) Z)
  ·obtain ⟨_,rfl⟩:=Y h e1
   have B:=W hk Z
   rw [hF] at B
   cases B
   exact hco
 case refine_6=>exact fun z hz=>(mem_append.mp hz).elim (I.nm z) fun y=>by rw [mem_singleton.mp y];exact hnm
 case refine_2 =>
  by_cases h:k<=pls.length
  ·exact Can.mono ext (I.cn k t (tbA h e))
  ·have hk9:k=pls.length+1:=by
    have:=(Qg.mp e).1
    rw [length_cons,length_map,length_append] at this
    have:k < pls.length+1+1:=this
    omega
   subst hk9
   have e':(pls++[q])[pls.length]?.map (·.tb)=some t:=by rw [<- getElem?_map];exact e
   rw [getElem?_append_right (Qe _),QZ] at e'
   cases (show some q.tb=some t from e')
   exact hc
 case refine_3 =>
  by_cases h:k < pls.length
  ·rw [getElem?_append_left h] at e1
   have hw:=I.wf k p e1
   exact I.vt k p G t e1 (W (by omega) Z) (tbA (by omega) e3) hs
  ·obtain ⟨_,rfl⟩:=Y h e1
   have B:=W hk Z
   rw [hF] at B
   cases B
   have e3':=tbA hk e3
   rw [XL hk] at e3'
   rw [hvt hs];exact Qo e3'
 ·by_cases h:k < pls.length
  ·rw [getElem?_append_left h] at e;exact I.wf k p e
  ·rw [getElem?_append_right (by omega)] at e
   have:k - pls.length=0:=by
    cases z:k - pls.length with
    | zero=>rfl
    | succ j=>rw [z] at e;simp at e
   rw [this] at e
   cases (show some q=some p from e)
   omega
 ·rw [XE] at e1
  by_cases h:k < (envs pls).length
  ·rw [getElem?_append_left h] at e1
   have B:(0::pls.map (·.tb))[k]?=some t:=by
    rw [map_append,<- PV,getElem?_append_left (by rw [length_cons,length_map];rw [Xf] at h;exact h)] at Z
    exact Z
   obtain ⟨g1,g2,g3⟩:=I.tr k G t e1 B
   exact ⟨mono _ g1,Tri.mono 5 g2 ext,g3⟩
  ·rw [getElem?_append_right (by omega)] at e1
   have hz:k - (envs pls).length=0:=by
    cases z:k - (envs pls).length with
    | zero=>rfl
    | succ j=>rw [z] at e1;simp at e1
   rw [hz] at e1
   have e1':q.st.ap ((envs pls).getD q.ah fun _=>none)=G:=Qo e1
   rw [getD_eq_getElem?_getD,hF] at e1'
   have ek:k=pls.length+1:=by rw [Xf] at h hz;omega
   have B:q.tb=t:=by
    rw [ek,GC,map_append,getElem?_append_right (by rw [length_map];omega),length_map,QZ] at Z
    exact Qo Z
   subst e1' B
   refine ⟨ht,tri,fun x u D=>?_⟩
   have D:q.st.ap F x=some u:=D
   cases es:q.st with
   | set y v =>
    rw [es] at D
    have D:(if x=y then some v else F x)=some u:=D
    by_cases z:x=y
    ·rw [if_pos z] at D;cases D;exact hv y _ es
    ·rw [if_neg z] at D;exact hfv x u D
   | clr y =>
    rw [es] at D
    have D:(if x=y then none else F x)=some u:=D
    by_cases z:x=y
    ·rw [if_pos z] at D;cases D
    ·rw [if_neg z] at D;exact hfv x u D
section
variable {P:Ql}{w:Qs}{K:Qa}{mg:Str->Option Qb}{base:Heap}{CR CS Pl:Addr}
inductive ZhO (K:Qa)(CR CS Pl:Addr)(vs:List V)(H:Hp)(Q:VK)(w_3:XK):Prop
 | mk (NS:List Str) (r sa:Addr) (pls:List ZE) (nds:List Nd) (tabs:List (Zj×V)) (k:Nat) (s:Stp) (Δ:Rs):vs=[.ref r,.int (k:Int),.ref sa]->ZZ NS->Sep ((r,XB K CR CS pls nds tabs)::(Pl,YG)::Δ) H->H sa=some (.tup s.vs)->RInv NS pls nds tabs->s.ok NS->k<=pls.length->pls.length<=10000->nds.length<=90000->tabs.length<=90000->(∀ (H':Hp) (nds':List Nd) (tabs':List (Zj×V)) (t':Nat),Sep ((r,XB K CR CS (pls++[⟨k,s,t',nds'.length - nds.length⟩]) nds' tabs')::(Pl,YG)::Δ) H'->RInv NS (pls++[⟨k,s,t',nds'.length - nds.length⟩]) nds' tabs'->(NEx nds nds'/\∀ k,(ZG tabs k).isSome=true->(ZG tabs' k).isSome=true)->nds'.length<=nds.length+6->tabs'.length<=tabs.length+1->Q (.int ((pls.length+1:Nat):Int)) H')->ZhO K CR CS Pl vs H Q w_3
abbrev nRGo:List Str:=["self","place","step","table","made_ahead"]
abbrev Zed:List Str:=["self","place","step"]
theorem scRGo:Zp nRGo Zed (Zk c_Roads_go_on):={}
theorem ZmN (F:Fun K "go_on" "Roads.go_on" c_Roads_go_on f fd)(T:Yl mg)(B:Xo K CR)(TC:YY K CS)(DR_table:DefM P w K mg base 9 CR "table" VA (WM K CR CS))(DS_made:DefM P w K mg base 9 CS "made" ["self"] (Zcq K CS))(DS_put:DefM P w K mg base 9 CS "put" ["self","table","name","value"] (Zam K CS Pl))(DS_without:DefM P w K mg base 9 CS "without" ["self","table","name"] (Zcu K CS Pl)):FnOk P w K mg base ZJ 10 f fd Zed (ZhO K CR CS Pl):=by
 refine F.ok scRGo (fun cdv A outer s H vs Q E hr h=>?_)
 obtain ⟨NS,r,sa,pls,nds,tabs,k,s,Δ,rfl,N,S0,es,I,hs,hk,hpl,hnd,htb,q⟩:=h
 obtain ⟨st,la,ls,lt,lc,S⟩:=S0.roaO
 obtain ⟨dx,ob⟩:=S.get r
 obtain ⟨b0,ln,dt,SA⟩:=S.get st
 obtain ⟨dxs,obs⟩:=SA.ob
 obtain ⟨Fk,hFk⟩:∃ Fk,(envs pls)[k]?=some Fk:=⟨_,getElem?_eq_getElem (by rw [Xf];omega)⟩
 obtain ⟨g1,g2,g3⟩:=I.tr k Fk _ hFk (XL hk)
 obtain ⟨wsy,ey,ny,ewy,_⟩:=Uf N g2 (show s.nm∈NS by cases s with | set x v=>exact hs.1 | clr x=>exact hs)
 have Wy:=ZfH ewy
 refine' ⟨?t,?h,?r⟩
 case h =>
  conv=>arg 2;whnf
  with_reducible refine' (Ze ?h1 (Ze ?h2 (Ze (Yi ?h3 (Zg ?h4) (Zg ?h5)) (Ze ?h6 (Ze ?h7 (Ze ?h8 (Ze ?h9 (Zg ?h10))))))))
  case h1=>exact Zx (i:=3) scRGo.nd rfl (Qy rfl) (ZT DR_table B.cl hr (pv 0) (Zb (pv 1) Za))
  case h2=>exact Zx (i:=4) scRGo.nd rfl (Qy rfl) (Ud DS_made TC.cl hr (ZS (pv 0) rfl))
  case h3=>exact ZP Yo (Zo ZO (pv 2) Zd (fun _ _=>rfl)) ZU (ZH _)
  case h4=>exact Zx (i:=3) scRGo.nd rfl (Qy rfl) (ZT DS_put TC.cl hr (ZS (pv 0) rfl) (Zb (pv 3) (Zb (Zo ZO (pv 2) Zd (fun _ _=>rfl)) (Zb (Zo ZO (pv 2) Zd (fun _ _=>rfl)) Za))))
  case h5=>exact Zx (i:=3) scRGo.nd rfl (Qy rfl) (ZT DS_without TC.cl hr (ZS (pv 0) rfl) (Zb (pv 3) (Zb (Zo ZO (pv 2) Zd (fun _ _=>rfl)) Za)))
  case h6=>exact ZY (YL Qz QF QG Yp (ZS (pv 0) rfl) (Zb (pv 1) Za))
  case h7=>exact ZY (YL Qz QF QG Yp (ZS (pv 0) rfl) (Zb (pv 2) Za))
  case h8=>exact ZY (YL Qz QF QG Yp (ZS (pv 0) rfl) (Zb (pv 3) Za))
  case h9=>exact ZY (YL Qz QF QG Yp (ZS (pv 0) rfl) (Zb (Zt YW (Ud DS_made TC.cl hr (ZS (pv 0) rfl)) (pv 4)) Za))
  case h10=>exact Zn (Zt YW (Zz ZL rfl T.len QM (Zb (ZS (pv 0) rfl) Za)) Zd)
 try dsimp only [ZR,Cx.nox]
 refine zs8 ?_
 intro zD zS zN7 zN6 zN5 zN4 zN3 zN2 zN1
 refine ⟨_,rfl,r,dx,_,rfl,ob,Yq (by decide +kernel),_,rfl,r,pls,nds,tabs,k,rfl,S0.get r,hk,?_⟩
 refine ⟨_,rfl,r,CR,dx,_,_,rfl,ob,B.cl,B.nk,Zai,st,dxs,_,rfl,obs,ZM ln dt (by decide +kernel) (by decide +kernel),st,nds,tabs,rfl,S.get st,?_⟩
 have S1:=((S.imm es rfl).pull Pl).pull st
 cases s with
 | set x v =>
  obtain ⟨hx,hv⟩:=hs
  refine ⟨_,rfl,sa,_,_,_,rfl,rfl,SqT.of es,Zr (j:=0) rfl,rfl,_,rfl,?_⟩
  rw [decide_eq_true rfl]
  refine Yg ⟨_,rfl,r,CR,dx,_,_,rfl,ob,B.cl,B.nk,Zai,st,dxs,_,rfl,obs,ZM ln dt (by decide +kernel) (by decide +kernel),_,rfl,_,rfl,sa,_,_,_,rfl,rfl,SqT.of es,Zr (j:=1) rfl,_,rfl,sa,_,_,_,rfl,rfl,SqT.of es,Zr (j:=2) rfl,?_⟩
  refine ⟨NS,st,nds,tabs,VO pls k,x,v,Fk,_,N,rfl,S1,g1,g2,hx,Ui hv,fun u hu=>Ui (g3 x u hu),by omega,by omega,fun H2 z D t2 S2 J len2 tl2 Y ht2 tri2 Z=>?_⟩
  have hcan:=I.cn k _ (XL hk)
  have I2:=RInv.app (q:=⟨k,.set x v,t2,z.length - nds.length⟩) I hk hFk J Y ht2 tri2 (fun y u e=>by cases e;exact hv)
   (by
    rcases Z with ⟨_,e1,e2,_⟩ | ⟨_,r,_⟩
    ·show Can z 5 t2;rw [e1,e2];exact hcan
    ·exact (PutR.can N hx b0 r g2 (by decide) rfl (by rw [Ja,Ju]) hcan).1)
   (fun hsm=>by
    rcases Z with ⟨_,e1,_,_⟩ | ⟨e1,_⟩
    ·exact e1
    ·exact absurd hsm e1)
   (by
    rcases Z with ⟨e0,e1,e2,_⟩ | ⟨e0,r,_⟩
    ·exact ZfY (s:=.set x v) (show Fk x=(if x=x then some v else Fk x) by rw [if_pos rfl];exact e0) (by show z.length - nds.length=0;rw [e2,QZ])
    ·refine ZfZ (s:=.set x v) (show ¬ Fk x=(if x=x then some v else Fk x) by rw [if_pos rfl];exact e0) fun l hl=>?_
     have hcan2:Can z 5 t2:=by exact (PutR.can N hx b0 r g2 (by decide) rfl (by rw [Ja,Ju]) hcan).1
     exact Zgn (os:=[]) N hx (J _ _ b0) tri2 hcan2 (PutR.made b0 r Wy) hl)
   (by show z.length - nds.length<=6;omega)
  revert S2 I2
  generalize Stp.set x v=s at *
  intro S2 I2
  obtain ⟨dx2,ob2⟩:=S2.get r
  refine ⟨_,rfl,r,CR,dx2,_,_,rfl,ob2,B.cl,B.na,Zbo,.inl ⟨rfl,_,SqL.of (S2.get la)⟩,_,rfl,la,_,_,rfl,rfl,S2.get la,YX (show _<=20000 by rw [length_cons,length_map];omega),?_⟩
  generalize W:upd H2 la _=H3
  have S3:=S2.putE W
  clear W
  obtain ⟨dx3,ob3⟩:=S3.get r
  obtain ⟨as3,els,hal,_⟩:=S3.get ls
  rw [length_map] at hal
  refine ⟨_,rfl,r,CR,dx3,_,_,rfl,ob3,B.cl,B.ns,ZhH,.inl ⟨rfl,_,SqL.of els⟩,_,rfl,ls,_,_,rfl,rfl,els,YX (show _<=20000 by rw [length_cons,length_map];omega),?_⟩
  generalize W:upd H3 ls _=H4
  have S4:=W ▸ S3.stepApp ls els (S3.get sa)
  clear W
  obtain ⟨dx4,ob4⟩:=S4.get r
  refine ⟨_,rfl,r,CR,dx4,_,_,rfl,ob4,B.cl,B.nt,Zlq,.inl ⟨rfl,_,SqL.of (S4.get lt)⟩,_,rfl,lt,_,_,rfl,rfl,S4.get lt,YX (show _<=20000 by rw [length_cons,length_map];omega),?_⟩
  generalize W:upd H4 lt _=H5
  have S5:=S4.putE W
  clear W
  obtain ⟨dx5,ob5⟩:=S5.get r
  obtain ⟨_,ln5,dt5,SA5⟩:=S5.get st
  obtain ⟨dxs5,obs5⟩:=SA5.ob
  refine ⟨_,rfl,r,CR,dx5,_,_,rfl,ob5,B.cl,B.nc,Zlp,.inl ⟨rfl,_,SqL.of (S5.get lc)⟩,_,rfl,r,CR,dx5,_,_,rfl,ob5,B.cl,B.nk,Zai,st,dxs5,_,rfl,obs5,ZM ln5 dt5 (by decide +kernel) (by decide +kernel),st,z,D,rfl,S5.get st,_,rfl,_,_,rfl,rfl,lc,_,_,rfl,rfl,S5.get lc,YX (show _<=20000 by rw [length_cons,length_map];omega),?_⟩
  generalize W:upd H5 lc _=H6
  have S6:=S5.putE W
  clear W
  obtain ⟨dx6,ob6⟩:=S6.get r
  refine ⟨_,rfl,r,CR,dx6,_,_,rfl,ob6,B.cl,B.na,Zbo,la,_,rfl,.inl (SqL.of (S6.get la)),_,_,rfl,rfl,?_⟩
  have hle:=J.len
  have ec:V.int ((z.length:Int) - (nds.length:Int))=V.int ((z.length - nds.length:Nat):Int):=congrArg V.int (by omega)
  have S7:=(((((((S6.drop sa).pull Pl).pull lc).pull lt).pull ls).pull la).pull st).pull r
  have S8:Sep ((r,Vh CR (WW st la ls lt lc))::(st,Wa K CS z D)::(la,Zv (V.non::(pls++[(⟨k,s,t2,z.length - nds.length⟩:ZE)]).map fun q=>V.int (q.ah:Int)))::(ls,Uk ((pls++[(⟨k,s,t2,z.length - nds.length⟩:ZE)]).map (·.st)))::(lt,Zv (V.int 0::(pls++[(⟨k,s,t2,z.length - nds.length⟩:ZE)]).map fun q=>V.int (q.tb:Int)))::(lc,Zv (V.int 0::(pls++[(⟨k,s,t2,z.length - nds.length⟩:ZE)]).map fun q=>V.int (q.co:Int)))::(Pl,YG)::Δ) H6:=by
   rw [map_append,map_append,map_append,map_append]
   show Sep (_::_::_::_::_::(lc,Zv (V.int 0::(pls.map (fun q=>V.int (q.co:Int))++[V.int ((z.length - nds.length:Nat):Int)])))::_) _
   rw [<- ec]
   exact S7
  have e9:(((V.non::pls.map fun q=>V.int (q.ah:Int))++[V.int (k:Int)]).length:Int) - 1=((pls.length+1:Nat):Int):=by rw [length_append,length_cons,length_map];show ((pls.length+1+1:Nat):Int) - 1=_;omega
  have:=q H6 z D t2 S8.roaC I2 ⟨J,Y⟩ len2 tl2
  rw [<- e9] at this
  exact this
 | clr x =>
  refine ⟨_,rfl,sa,_,_,_,rfl,rfl,SqT.of es,Zr (j:=0) rfl,rfl,_,rfl,?_⟩
  rw [show decide (V.str "clear"=V.str (Qq "set"))=false by decide +kernel]
  refine ZN ⟨_,rfl,r,CR,dx,_,_,rfl,ob,B.cl,B.nk,Zai,st,dxs,_,rfl,obs,ZM ln dt (by decide +kernel) (by decide +kernel),_,rfl,_,rfl,sa,_,_,_,rfl,rfl,SqT.of es,Zr (j:=1) rfl,?_⟩
  refine ⟨NS,st,nds,tabs,VO pls k,x,Fk,_,N,rfl,S1,g1,g2,hs,fun u hu=>Ui (g3 x u hu),by omega,by omega,fun H2 z D t2 S2 J len2 tl2 Y ht2 tri2 Z=>?_⟩
  have hcan:=I.cn k _ (XL hk)
  have I2:=RInv.app (q:=⟨k,.clr x,t2,z.length - nds.length⟩) I hk hFk J Y ht2 tri2 (fun y u e=>by cases e)
   (by
    rcases Z with ⟨_,e1,e2,_⟩ | ⟨_,r,_⟩
    ·show Can z 5 t2;rw [e1,e2];exact hcan
    ·exact (TakR.can b0 r hcan).1)
   (fun hsm=>by
    rcases Z with ⟨_,e1,_,_⟩ | ⟨e1,_⟩
    ·exact e1
    ·exact absurd hsm e1)
   (by
    rcases Z with ⟨e0,e1,e2,_⟩ | ⟨e0,r,_⟩
    ·exact ZfY (s:=.clr x) (show Fk x=(if x=x then none else Fk x) by rw [if_pos rfl];exact e0) (by show z.length - nds.length=0;rw [e2,QZ])
    ·refine ZfZ (s:=.clr x) (show ¬ Fk x=(if x=x then none else Fk x) by rw [if_pos rfl];exact e0) fun l hl=>?_
     have hcan2:Can z 5 t2:=by exact (TakR.can b0 r hcan).1
     exact Zgn (os:=[]) N hs (J _ _ b0) tri2 hcan2 (TakR.made N hs b0 r g2 (by decide) (by rw [Ja,Ju]) Wy) hl)
   (by show z.length - nds.length<=6;omega)
  revert S2 I2
  generalize Stp.clr x=s at *
  intro S2 I2
  obtain ⟨dx2,ob2⟩:=S2.get r
  refine ⟨_,rfl,r,CR,dx2,_,_,rfl,ob2,B.cl,B.na,Zbo,.inl ⟨rfl,_,SqL.of (S2.get la)⟩,_,rfl,la,_,_,rfl,rfl,S2.get la,YX (show _<=20000 by rw [length_cons,length_map];omega),?_⟩
  generalize W:upd H2 la _=H3
  have S3:=S2.putE W
  clear W
  obtain ⟨dx3,ob3⟩:=S3.get r
  obtain ⟨as3,els,hal,_⟩:=S3.get ls
  rw [length_map] at hal
  refine ⟨_,rfl,r,CR,dx3,_,_,rfl,ob3,B.cl,B.ns,ZhH,.inl ⟨rfl,_,SqL.of els⟩,_,rfl,ls,_,_,rfl,rfl,els,YX (show _<=20000 by rw [length_cons,length_map];omega),?_⟩
  generalize W:upd H3 ls _=H4
  have S4:=W ▸ S3.stepApp ls els (S3.get sa)
  clear W
  obtain ⟨dx4,ob4⟩:=S4.get r
  refine ⟨_,rfl,r,CR,dx4,_,_,rfl,ob4,B.cl,B.nt,Zlq,.inl ⟨rfl,_,SqL.of (S4.get lt)⟩,_,rfl,lt,_,_,rfl,rfl,S4.get lt,YX (show _<=20000 by rw [length_cons,length_map];omega),?_⟩
  generalize W:upd H4 lt _=H5
  have S5:=S4.putE W
  clear W
  obtain ⟨dx5,ob5⟩:=S5.get r
  obtain ⟨_,ln5,dt5,SA5⟩:=S5.get st
  obtain ⟨dxs5,obs5⟩:=SA5.ob
  refine ⟨_,rfl,r,CR,dx5,_,_,rfl,ob5,B.cl,B.nc,Zlp,.inl ⟨rfl,_,SqL.of (S5.get lc)⟩,_,rfl,r,CR,dx5,_,_,rfl,ob5,B.cl,B.nk,Zai,st,dxs5,_,rfl,obs5,ZM ln5 dt5 (by decide +kernel) (by decide +kernel),st,z,D,rfl,S5.get st,_,rfl,_,_,rfl,rfl,lc,_,_,rfl,rfl,S5.get lc,YX (show _<=20000 by rw [length_cons,length_map];omega),?_⟩
  generalize W:upd H5 lc _=H6
  have S6:=S5.putE W
  clear W
  obtain ⟨dx6,ob6⟩:=S6.get r
  refine ⟨_,rfl,r,CR,dx6,_,_,rfl,ob6,B.cl,B.na,Zbo,la,_,rfl,.inl (SqL.of (S6.get la)),_,_,rfl,rfl,?_⟩
  have hle:=J.len
  have ec:V.int ((z.length:Int) - (nds.length:Int))=V.int ((z.length - nds.length:Nat):Int):=congrArg V.int (by omega)
  have S7:=(((((((S6.drop sa).pull Pl).pull lc).pull lt).pull ls).pull la).pull st).pull r
  have S8:Sep ((r,Vh CR (WW st la ls lt lc))::(st,Wa K CS z D)::(la,Zv (V.non::(pls++[(⟨k,s,t2,z.length - nds.length⟩:ZE)]).map fun q=>V.int (q.ah:Int)))::(ls,Uk ((pls++[(⟨k,s,t2,z.length - nds.length⟩:ZE)]).map (·.st)))::(lt,Zv (V.int 0::(pls++[(⟨k,s,t2,z.length - nds.length⟩:ZE)]).map fun q=>V.int (q.tb:Int)))::(lc,Zv (V.int 0::(pls++[(⟨k,s,t2,z.length - nds.length⟩:ZE)]).map fun q=>V.int (q.co:Int)))::(Pl,YG)::Δ) H6:=by
   rw [map_append,map_append,map_append,map_append]
   show Sep (_::_::_::_::_::(lc,Zv (V.int 0::(pls.map (fun q=>V.int (q.co:Int))++[V.int ((z.length - nds.length:Nat):Int)])))::_) _
   rw [<- ec]
   exact S7
  have e9:(((V.non::pls.map fun q=>V.int (q.ah:Int))++[V.int (k:Int)]).length:Int) - 1=((pls.length+1:Nat):Int):=by rw [length_append,length_cons,length_map];show ((pls.length+1+1:Nat):Int) - 1=_;omega
  have:=q H6 z D t2 S8.roaC I2 ⟨J,Y⟩ len2 tl2
  rw [<- e9] at this
  exact this
end
section
variable {P:Ql}{w:Qs}{K:Qa}{mg:Str->Option Qb}{base:Heap}{CR CS Pl:Addr}
def GoP (K:Qa)(CR CS Pl:Addr)(NS:List Str)(r:Addr)(pls:List ZE)(nds:List Nd)(tabs:List (Zj×V))(k:Nat)(s:Stp)(Δ:Rs)(H:Hp)(Q:VK):Prop :=
 ZZ NS/\Sep ((r,XB K CR CS pls nds tabs)::(Pl,YG)::Δ) H/\RInv NS pls nds tabs/\s.ok NS/\k<=pls.length/\pls.length<=10000/\nds.length<=90000/\tabs.length<=90000 /\
 ∀ (H':Hp) (nds':List Nd) (tabs':List (Zj×V)) (t':Nat),Sep ((r,XB K CR CS (pls++[⟨k,s,t',nds'.length - nds.length⟩]) nds' tabs')::(Pl,YG)::Δ) H'->RInv NS (pls++[⟨k,s,t',nds'.length - nds.length⟩]) nds' tabs'->(NEx nds nds'/\∀ k,(ZG tabs k).isSome=true->(ZG tabs' k).isSome=true)->nds'.length<=nds.length+6->tabs'.length<=tabs.length+1->Q (.int ((pls.length+1:Nat):Int)) H'
inductive Zcr (K:Qa)(CR CS Pl:Addr)(vs:List V)(H:Hp)(Q:VK)(w_3:XK):Prop
 | mk (NS:List Str) (r:Addr) (pls:List ZE) (nds:List Nd) (tabs:List (Zj×V)) (k:Nat) (x:Str) (v:V) (Δ:Rs):vs=[.ref r,.int (k:Int),.str x,v]->GoP K CR CS Pl NS r pls nds tabs k (.set x v) Δ H Q->Zcr K CR CS Pl vs H Q w_3
inductive Zfu (K:Qa)(CR CS Pl:Addr)(vs:List V)(H:Hp)(Q:VK)(w_3:XK):Prop
 | mk (NS:List Str) (r:Addr) (pls:List ZE) (nds:List Nd) (tabs:List (Zj×V)) (k:Nat) (x:Str) (Δ:Rs):vs=[.ref r,.int (k:Int),.str x]->GoP K CR CS Pl NS r pls nds tabs k (.clr x) Δ H Q->Zfu K CR CS Pl vs H Q w_3
abbrev nRPu:List Str:=["self","place","name","value"]
abbrev Zee:List Str:=["self","place","name","value"]
theorem ZpY:Zp nRPu Zee (Zk c_Roads_put):={}
theorem ZmW (F:Fun K "put" "Roads.put" c_Roads_put f fd)(T:Yl mg)(Z:Xo K CR)(z:DefM P w K mg base 10 CR "go_on" Zed (ZhO K CR CS Pl)):FnOk P w K mg base ZJ 11 f fd Zee (Zcr K CR CS Pl):=by
 refine F.ok ZpY (fun cdv A outer s H vs Q E W h=>?_)
 obtain ⟨NS,r,pls,nds,D,k,x,v,Δ,rfl,N,J,I,hs,hk,h1,h2,h3,q⟩:=h
 obtain ⟨st,la,ls,lt,lc,SR⟩:=J.get r
 obtain ⟨dx,Y⟩:=SR.get r
 refine' ⟨?t,?h,?r⟩
 case h =>
  conv=>arg 2;whnf
  with_reducible refine' (Zg ?h1)
  case h1=>exact Zn (ZT z Z.cl W (pv 0) (Zb (pv 1) (Zb (YQ (Zb ZU (Zb (pv 2) (Zb (pv 3) Za)))) Za)))
 try dsimp only [ZR,Cx.nox]
 refine ⟨_,rfl,r,dx,_,rfl,Y,Yq (by decide +kernel),_,rfl,_,rfl,_,rfl,(by show 3<=Qi;decide),fun t ht=>?_⟩
 exact ⟨NS,r,t,pls,nds,D,k,.set x v,Δ,rfl,N,(J.new ht _).drop t,Zi,I,hs,hk,h1,h2,h3,fun H' nds' B t' S' I' gw l1 l2=>q H' nds' B t' S' I' gw l1 l2⟩
abbrev nRCl:List Str:=["self","place","name"]
abbrev Zhx:List Str:=["self","place","name"]
theorem ZpT:Zp nRCl Zhx (Zk c_Roads_clear):={}
theorem ZmK (F:Fun K "clear" "Roads.clear" c_Roads_clear f fd)(T:Yl mg)(Z:Xo K CR)(z:DefM P w K mg base 10 CR "go_on" Zed (ZhO K CR CS Pl)):FnOk P w K mg base ZJ 11 f fd Zhx (Zfu K CR CS Pl):=by
 refine F.ok ZpT (fun cdv A outer s H vs Q E W h=>?_)
 obtain ⟨NS,r,pls,nds,D,k,x,Δ,rfl,N,J,I,hs,hk,h1,h2,h3,q⟩:=h
 obtain ⟨st,la,ls,lt,lc,SR⟩:=J.get r
 obtain ⟨dx,Y⟩:=SR.get r
 refine' ⟨?t,?h,?r⟩
 case h =>
  conv=>arg 2;whnf
  with_reducible refine' (Zg ?h1)
  case h1=>exact Zn (ZT z Z.cl W (pv 0) (Zb (pv 1) (Zb (YQ (Zb ZU (Zb (pv 2) Za))) Za)))
 try dsimp only [ZR,Cx.nox]
 refine ⟨_,rfl,r,dx,_,rfl,Y,Yq (by decide +kernel),_,rfl,_,rfl,(by show 2<=Qi;decide),fun t ht=>?_⟩
 exact ⟨NS,r,t,pls,nds,D,k,.clr x,Δ,rfl,N,(J.new ht _).drop t,Zi,I,hs,hk,h1,h2,h3,fun H' nds' B t' S' I' gw l1 l2=>q H' nds' B t' S' I' gw l1 l2⟩
inductive ZcZ (K:Qa)(CR CS:Addr)(vs:List V)(H:Hp)(Q:VK)(w_3:XK):Prop
 | mk (r dx:Addr) (H0:Hp) (Δ:Rs):vs=[.ref r]->H=upd (upd H0 dx (.own r)) r (.ins CR dx [])->H0 r=none->H0 dx=none->dx≠r->Sep Δ H0->(∀ H',Sep ((r,XB K CR CS [] [.bare] [(QD 0,.bl true)])::Δ) H'->Q .non H')->ZcZ K CR CS vs H Q w_3
abbrev nRIn:List Str:=["self"]
abbrev Zhy:List Str:=["self"]
theorem ZpV:Zp nRIn Zhy (Zk c_Roads___init__):={}
theorem ZkE (F:Fun K "__init__" "Roads.__init__" c_Roads___init__ f fd)(T:Yl mg)(J:Xo K CR)(TC:YY K CS)(W:ZgP P w K mg base 1 CS "Store" ["self"] (ZaH K CS))(D:DefM P w K mg base 2 CS "empty" ["self"] (ZcX K CS)):FnOk P w K mg base ZJ 3 f fd Zhy (ZcZ K CR CS):=by
 refine F.ok ZpV (fun cdv A outer s H vs Q E hr h=>?_)
 obtain ⟨r,dx,H0,Δ,rfl,rfl,h1,h2,h3,S0,q⟩:=h
 have S:=((S0.new h2 (.own r)).new (p:=r) (by rw [Zl h3.symm];exact h1) (.ins CR dx [])).drop dx
 generalize upd (upd H0 dx (.own r)) r (.ins CR dx [])=H at *
 refine' ⟨?t,?h,?r⟩
 case h =>
  conv=>arg 2;whnf
  with_reducible refine' (Ze ?h1 (Ze ?h2 (Ze ?h3 (Ze ?h4 (Zg ?h5)))))
  case h1=>exact Uv (pv 0) (Zhr W hr) rfl
  case h2=>exact Uv (pv 0) (Yh (Zb UZ Za)) rfl
  case h3=>exact Uv (pv 0) (Yh (Zb UZ Za)) rfl
  case h4=>exact Uv (pv 0) (Yh (Zb (Ud D TC.cl hr (ZS (pv 0) rfl)) Za)) rfl
  case h5=>exact Uv (pv 0) (Yh (Zb Zd Za)) rfl
 try dsimp only [ZR,Cx.nox]
 refine zs5 ?_
 intro zD zS zN4 zN3 zN2 zN1
 intro st dx2 hst Y hne
 refine ⟨st,dx2,_,_,rfl,rfl,hst,Y,hne,S,fun H1 _ S1=>⟨rfl,?_⟩⟩
 refine ⟨_,rfl,r,CR,dx,_,rfl,S1.get r,J.cl,J.nk,(by show 0 < 1000;decide),?_⟩
 generalize B:upd H1 r _=H2
 have S2:=S1.putE B
 clear B
 refine ⟨(by show 1<=Qi;decide),fun la hla=>?_⟩
 generalize B:upd H2 la _=H3
 have S3:=S2.newE hla B
 clear B
 refine ⟨_,rfl,r,CR,dx,_,rfl,S3.get r,J.cl,J.na,(by show 1 < 1000;decide),?_⟩
 generalize B:upd H3 r _=H4
 have S4:=S3.putE B
 clear B
 refine ⟨(by show 1<=Qi;decide),fun Z hls=>?_⟩
 generalize B:upd H4 Z _=H5
 have S5:=S4.newE hls B
 clear B
 refine ⟨_,rfl,r,CR,dx,_,rfl,S5.get r,J.cl,J.ns,(by show 2 < 1000;decide),?_⟩
 generalize B:upd H5 r _=H6
 have S6:=S5.putE B
 clear B
 obtain ⟨b0,ln,dt,SA⟩:=S6.get st
 obtain ⟨dxs,obs⟩:=SA.ob
 refine ⟨_,rfl,r,CR,dx,_,_,rfl,S6.get r,J.cl,J.nk,rfl,st,dxs,_,rfl,obs,ZM ln dt (by decide +kernel) (by decide +kernel),_,rfl,(by show 1<=Qi;decide),fun lt hlt=>?_⟩
 generalize B:upd H6 lt _=H7
 have S7:=S6.newE hlt B
 clear B
 refine ⟨_,rfl,r,CR,dx,_,rfl,S7.get r,J.cl,J.nt,(by show 3 < 1000;decide),?_⟩
 generalize B:upd H7 r _=H8
 have S8:=S7.putE B
 clear B
 refine ⟨(by show 1<=Qi;decide),fun lc hlc=>?_⟩
 generalize B:upd H8 lc _=H9
 have S9:=S8.newE hlc B
 clear B
 refine ⟨_,rfl,r,CR,dx,_,rfl,S9.get r,J.cl,J.nc,(by show 4 < 1000;decide),?_⟩
 generalize B:upd H9 r _=H10
 have S10:=S9.putE B
 clear B
 have S11:=S10.say Z (Uk []) fun h z=>⟨[],z,rfl,fun i a s e=>by simp at e⟩
 have S12:=S11.say r (Vh CR (WW st la Z lt lc)) fun h z=>⟨dx,z⟩
 have S13:=(((((S12.pull lc).pull lt).pull Z).pull la).pull st).pull r
 exact q _ (Sep.roaC (pls:=[]) S13)
end
def StopL (pls:List ZE):YB:=fun l h=>∃ as:List Addr,h l=some (.lst (as.map V.ref))/\as.length=pls.length+1/\(∀ a,as[0]?=some a->h a=some (.tup [.non,.non]))/\∀(i:Nat)(a:Addr)(q:ZE),as[i+1]?=some a->pls[i]?=some q->∃ b,h a=some (.tup [.int (q.ah:Int),.ref b])/\h b=some (.tup q.st.vs)
instance {pls:List ZE}:Up (StopL pls):=⟨fun ⟨as,e,l,h0,h⟩ s=>⟨as,s _ _ e,l,fun a z=>s _ _ (h0 a z),fun i a q e1 e2=>let ⟨b,z1,z2⟩:=h i a q e1 e2;⟨b,s _ _ z1,s _ _ z2⟩⟩⟩
theorem Sep.stopApp {Δ J:Rs}{H:Hp}{pls:List ZE}{q:ZE}{a b:Addr}{as:List Addr}(S:Sep Δ H)(l:Addr)[P:Pull l Δ (StopL pls) J](e:H l=some (.lst (as.map V.ref)))(ea:H a=some (.tup [.int (q.ah:Int),.ref b]))(Z:H b=some (.tup q.st.vs)):Sep ((l,StopL (pls++[q]))::J) (upd H l (.lst (as.map V.ref++[V.ref a]))):=by
 refine S.updR l _ (fun h ⟨as,e,_⟩=>⟨_,e,rfl⟩) fun h r l' h' e1 e2 e3=>?_
 obtain ⟨B,e4,hl,Y,hs⟩:=r
 have e5:=l' _ _ e4
 rw [e] at e5
 have e6:as.map V.ref=B.map V.ref:=HO.lst.inj (Qo e5)
 have im:∀ b o,h b=some (.tup o)->h' b=some (.tup o):=fun b o z=>e2 _ _ (fun y=>by rw [y,e4] at z;cases z) z
 refine ⟨B++[a],?_,by rw [length_append,length_append,hl];rfl,fun c z=>?_,fun i c p W D=>?_⟩
 ·rw [e1,map_append,e6];rfl
 ·rw [getElem?_append_left (by omega)] at z
  exact im _ _ (Y c z)
 ·by_cases hi:i < pls.length
  ·rw [getElem?_append_left (by omega)] at W
   rw [getElem?_append_left hi] at D
   obtain ⟨d,z1,z2⟩:=hs i c p W D
   exact ⟨d,im _ _ z1,im _ _ z2⟩
  ·rw [getElem?_append_right (by omega)] at W D
   have Y:i - pls.length=0:=by
    cases z:i - pls.length with
    | zero=>rfl
    | succ j=>rw [z] at D;simp at D
   rw [show i+1 - B.length=0 by omega] at W
   rw [Y] at D
   cases (show some a=some c from W)
   cases (show some q=some p from D)
   exact ⟨b,e3 _ _ (fun y=>by rw [y,e] at ea;cases ea) ea rfl,e3 _ _ (fun y=>by rw [y,e] at Z;cases Z) Z rfl⟩
section
variable {P:Ql}{w:Qs}{K:Qa}{mg:Str->Option Qb}{base:Heap}{CR CS Pl:Addr}
inductive ZcY (K:Qa)(CR CS Pl:Addr)(vs:List V)(H:Hp)(Q:VK)(w_3:XK):Prop
 | mk (NS:List Str) (r sl sa:Addr) (pls:List ZE) (nds:List Nd) (tabs:List (Zj×V)) (k:Nat) (s:Stp) (Δ:Rs):vs=[.ref r,.ref sl,.int (k:Int),.ref sa]->ZZ NS->Sep ((r,XB K CR CS pls nds tabs)::(Pl,YG)::(sl,StopL pls)::Δ) H->H sa=some (.tup s.vs)->RInv NS pls nds tabs->s.ok NS->k<=pls.length->pls.length<=10000->nds.length<=90000->tabs.length<=90000->(∀ (H':Hp) (nds':List Nd) (tabs':List (Zj×V)) (q:ZE),Sep ((r,XB K CR CS (pls++[q]) nds' tabs')::(Pl,YG)::(sl,StopL (pls++[q]))::Δ) H'->RInv NS (pls++[q]) nds' tabs'->(NEx nds nds'/\∀ k,(ZG tabs k).isSome=true->(ZG tabs' k).isSome=true)->nds'.length<=nds.length+6->tabs'.length<=tabs.length+1->q.st.ok NS->Q (.bl true) H')->ZcY K CR CS Pl vs H Q w_3
abbrev nGr:List Str:=["_law_roads","_law_stops","_law_place","_law_step_here","_law_told"]
abbrev ZkY:List Str:=["_law_roads","_law_stops","_law_place","_law_step_here"]
theorem scGr:Zp nGr ZkY (Zk s_l_grown):={}
theorem ZkD (F:Fun K "_law_grown" "_law_grown" s_l_grown f fd)(T:Yl mg)(TR:Xo K CR)(DR_put:DefM P w K mg base 11 CR "put" Zee (Zcr K CR CS Pl))(Z:DefM P w K mg base 11 CR "clear" Zhx (Zfu K CR CS Pl)):FnOk P w K mg base ZJ 12 f fd ZkY (ZcY K CR CS Pl):=by
 refine F.ok scGr (fun cdv A outer s H vs Q E hr h=>?_)
 obtain ⟨NS,r,D,sa,pls,nds,tabs,k,s,Δ,rfl,N,S0,es,I,hs,hk,h1,h2,h3,q⟩:=h
 obtain ⟨st,la,ls,lt,lc,SR⟩:=S0.get r
 obtain ⟨dx,ob⟩:=SR.get r
 refine' ⟨?t,?h,?r⟩
 case h =>
  conv=>arg 2;whnf
  with_reducible refine' (Ze (Yi ?h1 (Zg ?h2) (Zg ?h3)) (Ze ?h4 (Zg ?h5)))
  case h1=>exact ZP Yo (Zo ZO (pv 3) Zd (fun _ _=>rfl)) ZU (ZH _)
  case h2=>exact Zx (i:=4) scGr.nd rfl (Qy rfl) (ZT DR_put TR.cl hr (pv 0) (Zb (pv 2) (Zb (Zo ZO (pv 3) Zd (fun _ _=>rfl)) (Zb (Zo ZO (pv 3) Zd (fun _ _=>rfl)) Za))))
  case h3=>exact Zx (i:=4) scGr.nd rfl (Qy rfl) (ZT Z TR.cl hr (pv 0) (Zb (pv 2) (Zb (Zo ZO (pv 3) Zd (fun _ _=>rfl)) Za)))
  case h4=>exact ZY (YL Qz QF QG Yp (pv 1) (Zb (YQ (Zb (pv 2) (Zb (pv 3) Za))) Za))
  case h5=>exact Zn (WU (Zz XD rfl T.isinstance (by decide +kernel) (Zb (pv 4) (Zb (Wi rfl T.int (by decide +kernel) (v:=.ty "int") rfl) Za))) (WU (ZoI (Zz XD rfl T.isinstance (by decide +kernel) (Zb (pv 4) (Zb (Wi rfl T.bool (by decide +kernel) (v:=.ty "bool") rfl) Za)))) (Va (YK Yo (pv 4) (Zt YW (Zz ZL rfl T.len QM (Zb (pv 1) Za)) Zd) (ZH _)))))
 try dsimp only [ZR,Cx.nox]
 refine zs3 ?_
 intro zD zS zN2 zN1
 have S1:=((S0.imm es rfl).pull Pl).pull r
 cases s with
 | set x v =>
  refine ⟨_,rfl,sa,_,_,_,rfl,rfl,SqT.of es,Zr (j:=0) rfl,rfl,_,rfl,?_⟩
  rw [decide_eq_true rfl]
  refine Yg ⟨_,rfl,r,dx,_,rfl,ob,Yq (by decide +kernel),_,rfl,_,rfl,sa,_,_,_,rfl,rfl,SqT.of es,Zr (j:=1) rfl,_,rfl,sa,_,_,_,rfl,rfl,SqT.of es,Zr (j:=2) rfl,?_⟩
  refine ⟨NS,r,pls,nds,tabs,k,x,v,_,rfl,N,S1,I,hs,hk,h1,h2,h3,fun H2 B Y t2 S2 I2 gw l1 l2=>?_⟩
  obtain ⟨as,J,hal,_⟩:=S2.get D
  refine ⟨_,rfl,.inl ⟨rfl,_,SqL.of J⟩,_,rfl,_,rfl,(by show 2<=Qi;decide),fun t ht=>?_⟩
  generalize W:upd H2 t _=H3
  have S3:=S2.newE ht W
  have z:H3 D=some (.lst (as.map V.ref)):=by rw [<- W,Zl (Zs J ht)];exact J
  clear W
  refine ⟨D,_,_,rfl,rfl,z,YX (show _<=20000 by rw [length_map];omega),?_⟩
  generalize W:upd H3 D _=H4
  have S4:=W ▸ Sep.stopApp (q:=⟨k,.set x v,t2,B.length - nds.length⟩) S3 D z (S3.get t) (S3.get sa)
  have els4:H4 D=some (.lst (as.map V.ref++[V.ref t])):=by rw [<- W];exact Zi
  clear W
  refine ⟨_,rfl,_,_,_,_,rfl,.int _,rfl,true,rfl,Yg ⟨_,rfl,_,_,_,_,rfl,.int _,rfl,false,rfl,true,rfl,Yg ?_⟩⟩
  refine ⟨_,rfl,_,rfl,D,_,rfl,.inl (SqL.of els4),_,_,rfl,rfl,rfl,?_⟩
  rw [decide_eq_true (show V.int ((pls.length+1:Nat):Int)=V.int (((as.map V.ref++[V.ref t]).length:Nat) - 1:Int) from congrArg V.int (by rw [length_append,length_map,hal];show _=((pls.length+1+1:Nat):Int) - 1;omega))]
  exact q H4 B Y _ (((((S4.drop t).drop sa).pull D).pull Pl).pull r) I2 gw l1 l2 hs
 | clr x =>
  refine ⟨_,rfl,sa,_,_,_,rfl,rfl,SqT.of es,Zr (j:=0) rfl,rfl,_,rfl,?_⟩
  rw [show decide (V.str "clear"=V.str (Qq "set"))=false by decide +kernel]
  refine ZN ⟨_,rfl,r,dx,_,rfl,ob,Yq (by decide +kernel),_,rfl,_,rfl,sa,_,_,_,rfl,rfl,SqT.of es,Zr (j:=1) rfl,?_⟩
  refine ⟨NS,r,pls,nds,tabs,k,x,_,rfl,N,S1,I,hs,hk,h1,h2,h3,fun H2 B Y t2 S2 I2 gw l1 l2=>?_⟩
  obtain ⟨as,J,hal,_⟩:=S2.get D
  refine ⟨_,rfl,.inl ⟨rfl,_,SqL.of J⟩,_,rfl,_,rfl,(by show 2<=Qi;decide),fun t ht=>?_⟩
  generalize W:upd H2 t _=H3
  have S3:=S2.newE ht W
  have z:H3 D=some (.lst (as.map V.ref)):=by rw [<- W,Zl (Zs J ht)];exact J
  clear W
  refine ⟨D,_,_,rfl,rfl,z,YX (show _<=20000 by rw [length_map];omega),?_⟩
  generalize W:upd H3 D _=H4
  have S4:=W ▸ Sep.stopApp (q:=⟨k,.clr x,t2,B.length - nds.length⟩) S3 D z (S3.get t) (S3.get sa)
  have els4:H4 D=some (.lst (as.map V.ref++[V.ref t])):=by rw [<- W];exact Zi
  clear W
  refine ⟨_,rfl,_,_,_,_,rfl,.int _,rfl,true,rfl,Yg ⟨_,rfl,_,_,_,_,rfl,.int _,rfl,false,rfl,true,rfl,Yg ?_⟩⟩
  refine ⟨_,rfl,_,rfl,D,_,rfl,.inl (SqL.of els4),_,_,rfl,rfl,rfl,?_⟩
  rw [decide_eq_true (show V.int ((pls.length+1:Nat):Int)=V.int (((as.map V.ref++[V.ref t]).length:Nat) - 1:Int) from congrArg V.int (by rw [length_append,length_map,hal];show _=((pls.length+1+1:Nat):Int) - 1;omega))]
  exact q H4 B Y _ (((((S4.drop t).drop sa).pull D).pull Pl).pull r) I2 gw l1 l2 hs
end
section
variable {P:Ql}{w:Qs}{K:Qa}{mg:Str->Option Qb}{base:Heap}{CR CS Pl:Addr}
theorem StopL.at {k:Nat}(h:StopL pls l H)(Z:k<=pls.length):∃ xs a x y,H l=some (.lst xs)/\xs[k]?=some (.ref a)/\H a=some (.tup [x,y])/\x=ahV pls k/\StV pls k y H/\xs.length=pls.length+1:=by
 obtain ⟨as,e,B,W,Y⟩:=h
 have z:=getElem?_eq_getElem (show k < as.length by omega)
 refine ⟨as.map V.ref,as[k],?_⟩
 cases k with
 | zero=>exact ⟨_,_,e,by rw [getElem?_map,z];rfl,W _ z,rfl,rfl,by rw [length_map];exact B⟩
 | succ k =>
  have hp:=getElem?_eq_getElem (show k < pls.length by omega)
  obtain ⟨b,D,J⟩:=Y k _ _ z hp
  refine ⟨_,_,e,by rw [getElem?_map,z];rfl,D,?_,⟨b,_,rfl,by rw [getElem?_map,hp];rfl,J⟩,by rw [length_map];exact B⟩
  show _=V.int (((pls.getD k ⟨0,.clr "",0,0⟩).ah:Nat):Int)
  rw [getD_eq_getElem?_getD,hp];rfl
inductive Zda (vs:List V)(H:Hp)(Q:VK)(w_3:XK):Prop
 | mk (sl:Addr) (pls:List ZE) (k:Nat):vs=[.ref sl,.int (k:Int)]->StopL pls sl H->WfP pls->k<=pls.length->pls.length<=10000->(∀ l H',Same H H'->H l=none->H' l=some (.lst ((rd pls k).map nV))->Q (.ref l) H')->Zda vs H Q w_3
abbrev nRo:List Str:=["_law_stops","_law_place","_law_found"]
abbrev Zld:List Str:=["_law_stops","_law_place"]
theorem scRo:Zp nRo Zld (Zk s_l_road):={}
theorem ZkF (F:Fun K "_law_road" "_law_road" s_l_road f fd)(T:Yl mg):FnOk P w K mg base ZJ 1 f fd Zld Zda:=by
 refine F.ok scRo (fun cdv A outer s H vs Q E hr h=>?_)
 obtain ⟨Z,pls,k,rfl,R,Y,hk,hpl,q⟩:=h
 refine' ⟨?t,?h,?r⟩
 case h =>
  conv=>arg 2;whnf
  with_reducible refine' (Ze ?h1 (Ze (VB ?h2 ?h3 (Zg ?h4)) (Zg ?h5)))
  case h1=>exact Zx (i:=2) scRo.nd rfl (Qy rfl) (Yh (Zb (pv 1) Za))
  case h2=>exact Ga
  case h3=>exact ZP Zho (Zo ZD (pv 2) Zd (fun _ _=>rfl)) Zd (ZH _)
  case h4=>exact ZY (YL Qz PySem.F.slot_list_insert PySem.F.type_list_insert ZiS (pv 2) (Zb Zd (Zb (Zo ZO (Zo ZD (pv 0) (Zo ZD (pv 2) Zd (fun _ _=>rfl)) (fun _ _=>rfl)) Zd (fun _ _=>rfl)) Za)))
  case h5=>exact Zn (pv 2)
 try dsimp only [ZR,Cx.nox]
 refine zs3 ?_
 intro zD zS zN2 zN1
 refine ⟨_,rfl,(by show 1<=Qi;decide),fun l W=>?_⟩
 refine ⟨fun m σ H'=>∃ (bs:List Nat) (j:Nat),σ=[some (.ref Z),some (.int (k:Int)),some (.ref l)]/\Same H H'/\H' l=some (.lst ((j::bs).map nV))/\bs.length+j<=k/\j<=pls.length/\m=j/\bs.reverse++bk pls (j+1) j=bk pls (k+1) k,
  ⟨k,[],k,rfl,ZC W _,Zi,by show 0+k<=k;omega,hk,rfl,rfl⟩,?_⟩
 rintro j σ H2 ⟨bs,j',rfl,s2,B,hm,hj,rfl,D⟩
 refine ⟨_,rfl,l,_,_,_,rfl,rfl,SqL.of B,Zr (j:=0) rfl,_,_,rfl,rfl,_,rfl,Xy (fun c=>?_) (fun c=>?_)⟩
 ·have J:0 < j:=by have:=of_decide_eq_true c;omega
  obtain ⟨xs,a,x,y,e1,e2,e3,e4,_,_⟩:=StopL.at (Up.up R s2) hj
  refine ⟨_,fun σ' H' h=>h,_,rfl,.inl ⟨rfl,_,SqL.of B⟩,_,rfl,_,rfl,l,_,_,_,rfl,rfl,SqL.of B,Zr (j:=0) rfl,Z,_,_,_,rfl,rfl,SqL.of e1,Zr (j:=j) e2,a,_,_,_,rfl,rfl,SqT.of e3,Zr (j:=0) rfl,l,_,0,_,rfl,rfl,B,?_,by decide,?_⟩
  ·rw [length_map,length_cons];omega
  obtain ⟨i,rfl⟩:∃ i,j=i+1:=⟨j - 1,by omega⟩
  have ha:=Y.at (show i < pls.length by omega)
  subst e4
  refine ⟨(pls.getD i ⟨0,.clr "",0,0⟩).ah,by omega,(i+1)::bs,_,rfl,fun b o e=>?_,Zi,by show bs.length+1+_<=k;omega,by omega,rfl,?_⟩
  ·rw [Zl (Zs e W)];exact s2 _ _ e
  ·rw [Pr,append_assoc,<- D]
   show bs.reverse++(i+1)::bk pls _ _=bs.reverse++(i+1)::bk pls (i+1) _
   rw [ZcE Y _ (by omega) (i+1) (by omega)]
 ·have J:j=0:=by have:¬ (0:Int) < (j:Int):=fun z=>c (decide_eq_true z);omega
  subst J
  refine ⟨_,rfl,q l H2 s2 W ?_⟩
  rw [B]
  unfold rd
  rw [<- D,OF,List.reverse_reverse];rfl
end
section
variable {P:Ql}{w:Qs}{K:Qa}{mg:Str->Option Qb}{base:Heap}{CR CS Pl:Addr}
def NvV (v:V):Prop:=v=.non\/IsVal v
theorem Zbh (h:NvV v):v=.non\/(∃ i,v=.int i)\/∃ x,v=.str x:=by
 rcases h with h | h
 ·exact .inl h
 ·cases v<;>first | exact .inr (.inl ⟨_,rfl⟩) | exact .inr (.inr ⟨_,rfl⟩) | exact h.elim
inductive Zek (vs:List V)(H:Hp)(Q:VK)(w_3:XK):Prop
 | mk (v:_):vs=[v,v]->NvV v->Q (.bl true) H->Zek vs H Q w_3
abbrev nLAl:List Str:=["_law_one","_law_other"]
abbrev Zea:List Str:=["_law_one","_law_other"]
theorem ZpP:Zp nLAl Zea (Zk s_l_alike):={}
theorem ZiV (F:Fun K "_law_alike" "_law_alike" s_l_alike f fd)(T:Yl mg):FnOk P w K mg base ZJ 1 f fd Zea Zek:=by
 refine F.ok ZpP (fun z A outer s H vs Q E J h=>?_)
 obtain ⟨v,rfl,B,q⟩:=h
 refine' ⟨?t,?h,?r⟩
 case h =>
  conv=>arg 2;whnf
  with_reducible refine' (Ze (Yi ?h1 (Zg ?h2) ZV) (Zg ?h3))
  case h1=>exact PW.pt (ZhF (Wu (Zz XD rfl T.isinstance (by decide +kernel) (Zb (pv 0) (Zb (Wi rfl T.bool (by decide +kernel) (v:=.ty "bool") rfl) Za)))) (Zfn (ZP Zce (Zch (Zah (pv 0))) (Zch (Zah (pv 1))) (ZH _))))
  case h2=>exact Zn Uc
  case h3=>exact Zn (WU (YK Yo (Zz XD rfl T.isinstance (by decide +kernel) (Zb (pv 0) (Zb (Wi rfl T.str (by decide +kernel) (v:=.ty "str") rfl) Za))) (Zz XD rfl T.isinstance (by decide +kernel) (Zb (pv 1) (Zb (Wi rfl T.str (by decide +kernel) (v:=.ty "str") rfl) Za))) (ZH _)) (Va (YK Yo (pv 0) (pv 1) (ZH _))))
 try dsimp only [ZR,Cx.nox]
 refine UI ?_
 intro W Y D
 rcases Zbh B with rfl | ⟨i,rfl⟩ | ⟨x,rfl⟩
 ·refine ⟨_,rfl,_,_,_,_,rfl,.non,rfl,_,rfl,ZN ⟨_,rfl,_,rfl,rfl,_,rfl,?_⟩⟩
  rw [decide_eq_true rfl]
  refine ZN ⟨_,rfl,_,_,_,_,rfl,.non,rfl,_,rfl,_,_,_,_,rfl,.non,rfl,rfl,true,?_,Yg ⟨_,rfl,_,rfl,rfl,?_⟩⟩
  ·rw [decide_eq_true rfl]
  ·rw [decide_eq_true rfl];exact q
 ·refine ⟨_,rfl,_,_,_,_,rfl,.int _,rfl,_,rfl,ZN ⟨_,rfl,_,rfl,rfl,_,rfl,?_⟩⟩
  rw [decide_eq_true rfl]
  refine ZN ⟨_,rfl,_,_,_,_,rfl,.int _,rfl,_,rfl,_,_,_,_,rfl,.int _,rfl,rfl,true,?_,Yg ⟨_,rfl,_,rfl,rfl,?_⟩⟩
  ·rw [decide_eq_true rfl]
  ·rw [decide_eq_true rfl];exact q
 ·refine ⟨_,rfl,_,_,_,_,rfl,.str _,rfl,_,rfl,ZN ⟨_,rfl,_,rfl,rfl,_,rfl,?_⟩⟩
  rw [decide_eq_true rfl]
  refine ZN ⟨_,rfl,_,_,_,_,rfl,.str _,rfl,_,rfl,_,_,_,_,rfl,.str _,rfl,rfl,true,?_,Yg ⟨_,rfl,_,rfl,rfl,?_⟩⟩
  ·rw [decide_eq_true rfl]
  ·rw [decide_eq_true rfl];exact q
end
end K24
namespace L2
open PySem PySem.Spec PyProof.Rows
section
variable {X:Cx}{pins:List (Addr×Obj)}{σ:St}{H:Hp}{s:Qf}{d:Addr}{o:Obj}{kvs:List (Zj×V)}
end
section
variable {X:Cx}{tg:Expr}
end
end L2
namespace L2
open PySem PySem.W PySem.Spec PyProof.Rows
section
variable {X:Cx}
end
end L2
namespace L2
open PySem
end L2
namespace L2
open PySem PySem.W PySem.Spec PyProof.Rows
section
variable {X:Cx}
end
end L2
namespace L2
open PySem PySem.Spec PyProof.Rows
theorem Zdq {xs:List Int}(e:H a=some (.lst (xs.map V.int))):DataOf H (.ref a) (.list (xs.map Ji))/\(Tl (xs.map Ji)).canLay0=true/\(Tl (xs.map Ji)).depth<=60:=by
 have h1:∀ xs:List Int,DatasOf H (xs.map V.int) (xs.map Ji):=by
  intro xs
  induction xs with
  | nil=>exact .nil
  | cons x r ih=>exact .cons (.int x) ih
 have h2:∀ xs:List Int,Sz (xs.map Ji)=true:=by
  intro xs
  induction xs with
  | nil=>rfl
  | cons x r ih=>exact ih
 have z:∀ xs:List Int,Ge (xs.map Ji)=0:=by
  intro xs
  induction xs with
  | nil=>rfl
  | cons x r ih=>rw [map_cons,Ge,ih];rfl
 refine ⟨.lst e (h1 xs),by rw [PyData.canLay0];exact h2 xs,?_⟩
 rw [NU,z];decide
end L2
namespace L2
open PySem PySem.W PySem.Spec PyProof.Rows
section
variable {X:Cx}
theorem ZaY:Yv X (.builtin "sorted") (fun xs H Q=>∃ (l0:Addr) (ss:List Str),xs=[.ref l0]/\H l0=some (.lst (ss.map V.str))/\ss.length < 64 /\
 ∀ (l:Addr) (ys:List Str),H l=none->ys.Perm ss->Zas ys->Q (.ref l) (upd H l (.lst (ys.map V.str)))):=by
 intro pins s σ H xs us Q I r h
 obtain ⟨l0,ss,rfl,el,h64,q⟩:=h
 obtain ⟨u,rfl,ru⟩:=Yr r
 cases ru
 obtain ⟨hz,D,n0,rv',hg0⟩:=(show ObjOk X.prog X.w H s.heap l0 (.lst (ss.map V.str)) from I.hok l0 _ el)
 have hS:=ZdS rv'
 have J:D.length=ss.length:=hS.length
 refine PJ MC NN NO (args_sorted1 _) ?_
 unfold GR.«sorted»
 refine Qd (m:=checkCount "sorted" 1 1 _) (Qh ?_)
 refine Qd (collect_list (l:=l0) (vs:=D) ⟨_,hg0,rfl,_,rfl⟩ ?_ (by rw [J,QY];omega))
 have hk:∀ b o,s.heap.get? b=some o->((s.heap.push (QU "list" #[] 0)).update s.heap.objs.size (QC fun x=>x++D.toArray)).get? b=some o:=fun b o e =>
  ((QI (s.heap.push (QU "list" #[] 0)) s.heap.objs.size _).2 b (Qn (Qj e))).trans (Qc _ e)
 have hge:s.heap.objs.size<=((s.heap.push (QU "list" #[] 0)).update s.heap.objs.size (QC fun x=>x++D.toArray)).objs.size:=by
  rw [(QI (s.heap.push (QU "list" #[] 0)) s.heap.objs.size _).1,Gc];exact Gh _
 generalize ((s.heap.push (QU "list" #[] 0)).update s.heap.objs.size (QC fun x=>x++D.toArray))=h' at hk hge ⊢
 generalize htk:s.toks=tk
 refine Qd (SO ?_ (by rw [J,QY];omega))
 have hoL:(h'.push { cls:=.type "list",data:=.seq D.toArray }).get? h'.objs.size=some (QU "list" D.toArray 0):=Qk _ rfl
 have Y:∀ b o,h'.get? b=some o->(h'.push { cls:=.type "list",data:=.seq D.toArray }).get? b=some o:=fun b o e=>Qc _ e
 show Qp _ _ _ _ _ { s with heap:=h'.push { cls:=.type "list",data:=.seq D.toArray },toks:=tk }
 generalize h'.push { cls:=.type "list",data:=.seq D.toArray }=g at hoL Y ⊢
 refine Qd (QX (Jr Oq ⟨_,hoL,rfl⟩ RN ?body (args_list_sort _)))
 case body =>
  refine list_sort_treeK (s:={ s with heap:=g,toks:=tk }) strKind_oneLt hoL hS.keysOf (fun v₁ v₂ rest e=>keyKind_strs (by rw [<- e];exact hS)) (by rw [J];exact h64) fun B hp hs=>⟨_,rfl,Qh ⟨_,rfl,?_⟩⟩
  have hsz:(Gs B).size=D.length:=by rw [hp.size_eq,pairsOf_size]
  have hl2:(Gs B).toList.Perm (D.zip D):=by rw [<- pairsOf_toList];exact TX.mp hp
  have W:∀ z∈(Gs B).toList,z.1=z.2/\z.1∈D:=fun z Z=>mem_zip_self (hl2.mem_iff.mp Z)
  have hout:JO ((Gs B).map (·.2)).toList ((Gs B).toList.map fun z=>RM z.1):=by
   have e:((Gs B).map (·.2)).toList=(Gs B).toList.map (·.1):=by
    rw [Ml];exact Jl fun z Z=>(W z Z).1.symm
   rw [e]
   have h1:=strsAre_map ((Gs B).toList.map (·.1)) (by
    intro v hv
    obtain ⟨z,Z,rfl⟩:=mem_map.mp hv
    exact hS.all _ (W z Z).2)
   rwa [map_map] at h1
  have hperm:((Gs B).toList.map fun z=>RM z.1).Perm (ss):=by
   have h1:=hl2.map fun z=>RM z.1
   have e2:(D.zip D).map (fun z=>RM z.1)=ss:=by
    have:(D.zip D).map (fun z=>RM z.1)=((D.zip D).map Prod.fst).map strOf:=by rw [map_map];rfl
    rw [this,Mn (Qe _),hS.strs]
   rwa [e2] at h1
  have hsort:Zas ((Gs B).toList.map fun z=>RM z.1):=by
   unfold Zas
   rw [pairwise_map,GS]
   intro i j hi hj hij
   have hi':i < (Gs B).size:=by simpa using hi
   have hj':j < (Gs B).size:=by simpa using hj
   have h1:=hs i j (GG hij) (by rw [<- hp.size_eq];exact hj')
   obtain ⟨x,t,ex⟩:=hS.all _ (W (Gs B)[i] (by simp)).2
   obtain ⟨y,u,ey⟩:=hS.all _ (W (Gs B)[j] (by simp)).2
   rw [KK_str hi' (x:=x) (t:=t) (q:=(Gs B)[i].2) (Prod.ext ex rfl),KK_str hj' (x:=y) (t:=u) (q:=(Gs B)[j].2) (Prod.ext ey rfl)] at h1
   change decide (y.cps.toList < x.cps.toList)=false at h1
   simp only [Jb]
   rw [show RM (Gs B)[i].1=x by rw [ex];rfl,show RM (Gs B)[j].1=y by rw [ey];rfl]
   exact of_decide_eq_false h1
  have s1:=QI g h'.objs.size (QC fun _=>(#[]:Array Qb))
  obtain ⟨e1,ho1⟩:∃ e1,(g.update h'.objs.size (QC fun _=>(#[]:Array Qb))).get? h'.objs.size=some (QU "list" #[] e1):=⟨_,JW hoL fun _=>#[]⟩
  have k1:∀ b o,b≠h'.objs.size->g.get? b=some o->(g.update h'.objs.size (QC fun _=>(#[]:Array Qb))).get? b=some o:=fun b o nb e=>(s1.2 b nb).trans e
  show EP X pins σ Q (.ref h'.objs.size) { s with heap:=(((g.update h'.objs.size (QC fun _=>(#[]:Array Qb))).push (QU "tuple" D.toArray 0)).push (QU "list" #[] 0)).update h'.objs.size (QC fun _=>(Gs B).map (·.2)),toks:=tk }
  generalize g.update h'.objs.size (QC fun _=>(#[]:Array Qb))=g1 at ho1 k1 ⊢
  have ho2:((g1.push (QU "tuple" D.toArray 0)).push (QU "list" #[] 0)).get? h'.objs.size=some (QU "list" #[] e1):=Qc _ (Qc _ ho1)
  have k2:∀ b o,g1.get? b=some o->((g1.push (QU "tuple" D.toArray 0)).push (QU "list" #[] 0)).get? b=some o:=fun b o e=>Qc _ (Qc _ e)
  generalize (g1.push (QU "tuple" D.toArray 0)).push (QU "list" #[] 0)=g2 at ho2 k2 ⊢
  have s2:=QI g2 h'.objs.size (QC fun _=>(Gs B).map (·.2))
  obtain ⟨c3,hc3⟩:∃ c3,(g2.update h'.objs.size (QC fun _=>(Gs B).map (·.2))).get? h'.objs.size=some (QU "list" ((Gs B).map (·.2)) c3):=⟨_,JW ho2 fun _=>(Gs B).map (·.2)⟩
  have keep:∀ b o,s.heap.get? b=some o->(g2.update h'.objs.size (QC fun _=>(Gs B).map (·.2))).get? b=some o:=fun b o e=>by
   have nb:b≠h'.objs.size:=Qn (QA (Qj e) hge)
   exact (s2.2 b nb).trans (k2 b o (k1 b o nb (Y b o (hk b o e))))
  generalize g2.update h'.objs.size (QC fun _=>(Gs B).map (·.2))=g3 at hc3 keep ⊢
  refine ⟨.ref h'.objs.size,_,I.laid (t':=tk) keep hge (show ObjOk X.prog X.w _ _ _ (.lst (((Gs B).toList.map fun z=>RM z.1).map V.str)) from ⟨?_,((Gs B).map (·.2)).toList,c3,ZdM hout,by rw [GY];exact hc3⟩),rfl,q _ _ (I.hok.fresh hge) hperm hsort⟩
  rw [length_map,length_map,Qu,hsz,J,QY];omega
end
end L2
namespace K24
open PySem L2
def foS:Stp->List (Str×V)->List (Str×V)
 | .set x v,ps=>Xi ps x v
 | .clr x,ps=>YN ps x
theorem ZnZ (s:Stp)(ps:List (Str×V)):lk (foS s ps)=s.ap (lk ps):=by
 cases s with
 | set x v=>funext y;show lk (Xi ps x v) y=if y=x then some v else lk ps y;rw [ZcS]
 | clr x=>funext y;show lk (YN ps x) y=if y=x then none else lk ps y;rw [Zat]
def foK (pls:List ZE)(ps:List (Str×V))(j:Nat):List (Str×V):=foS (pls.getD (j - 1) ⟨0,.clr "",0,0⟩).st ps
theorem Zir (J:WfP pls){k:Nat}(B:pls[k]?=some q)(D:(envs pls)[q.ah]?=some F):(envs pls)[k+1]?=some (q.st.ap F):=by
 revert J B D
 induction pls using ZcU with
 | h0=>intro _ h _;simp at h
 | hs l a ih =>
  intro J B D
  have W:WfP l:=fun j p e=>J j p (by rw [getElem?_append_left (Qg.mp e).1];exact e)
  have Y:=J k q B
  by_cases h:k < l.length
  ·rw [getElem?_append_left h] at B
   rw [XE,getElem?_append_left (by rw [Xf];omega)] at D
   rw [XE,getElem?_append_left (by rw [Xf];omega)]
   exact ih W B D
  ·rw [getElem?_append_right (by omega)] at B
   have hz:k - l.length=0:=by
    cases z:k - l.length with
    | zero=>rfl
    | succ j=>rw [z] at B;simp at B
   rw [hz] at B
   cases (show some a=some q from B)
   rw [XE,getElem?_append_left (by rw [Xf];omega)] at D
   rw [XE,getElem?_append_right (by rw [Xf];omega),Xf,show k+1 - (l.length+1)=0 by omega,getD_eq_getElem?_getD,D]
   rfl
theorem Zme (B:WfP pls){k:Nat}(z:pls[k]?=some q):rd pls (k+1)=rd pls q.ah++[k+1]:=by
 have J:=(Qg.mp z).1
 have D:=B k q z
 unfold rd
 show ((k+1)::bk pls (k+1) (pls.getD k ⟨0,.clr "",0,0⟩).ah).reverse=_
 rw [getD_eq_getElem?_getD,z]
 show ((k+1)::bk pls (k+1) q.ah).reverse=_
 rw [Pr,ZcE B q.ah (by omega) (k+1) (by omega)]
theorem Zmc (pls:List ZE)(k:Nat):rd pls k≠[]:=fun z=>by
 have B:=congrArg GX z
 unfold rd at B
 rw [length_reverse] at B
 cases k<;>simp [bk] at B
theorem env0 (pls:List ZE):(envs pls)[0]?=some fun _=>none:=by
 induction pls using ZcU with
 | h0=>rfl
 | hs l a ih=>rw [XE,getElem?_append_left (by rw [Xf];omega)];exact ih
theorem Zmp (B:WfP pls):∀ k,k<=pls.length->(envs pls)[k]?=some (lk ((rd pls k).tail.foldl (foK pls) [])):=by
 intro k
 induction k using RS with
 | ind k ih =>
  intro Z
  cases k with
  | zero =>
   exact env0 pls
  | succ k =>
   have z:=getElem?_eq_getElem (show k < pls.length by omega)
   have J:=B k _ z
   have e:=ih pls[k].ah (by omega) (by omega)
   rw [Zir B z e,Zme B z]
   obtain ⟨Y,D,W⟩:=Sb (Zmc pls pls[k].ah)
   rw [W]
   show some _=some (lk ((D++[k+1]).foldl (foK pls) []))
   rw [Px]
   show some (pls[k].st.ap (lk (D.foldl (foK pls) [])))=some (lk (foS (pls.getD k ⟨0,.clr "",0,0⟩).st (D.foldl (foK pls) [])))
   rw [ZnZ,getD_eq_getElem?_getD,z];rfl
def HeldOk (NS:List Str)(ps:List (Str×V)):Prop:=(ps.map (·.1)).Nodup/\∀ p∈ps,p.1∈NS/\IsVal p.2
theorem HeldOk.few (h:HeldOk NS ps):ps.length<=NS.length:=by
 have:=ZaB h.1 (N:=NS) fun x z=>by obtain ⟨p,hp,rfl⟩:=mem_map.mp z;exact (h.2 p hp).1
 rwa [length_map] at this
theorem HeldOk.nv (h:HeldOk NS ps)(x:Str):NvV ((lk ps x).getD .non):=by
 cases e:lk ps x with
 | none=>exact .inl rfl
 | some v=>exact .inr (h.2 _ ((YC h.1).mp e)).2
theorem Zli (h:p∈Xi ps x v):p=(x,v)\/p∈ps:=by
 unfold Xi at h
 split at h
 ·obtain ⟨r,B,e⟩:=mem_map.mp h
  split at e
  ·rename_i z;rw [<- e,z];exact .inl rfl
  ·rw [<- e];exact .inr B
 ·rcases mem_append.mp h with h | h
  ·exact .inr h
  ·exact .inl (mem_singleton.mp h)
theorem HeldOk.put (h:HeldOk NS ps)(J:x∈NS)(D:IsVal v):HeldOk NS (Xi ps x v):=by
 refine ⟨?_,fun p hp=>?_⟩
 ·rw [ZdE]
  by_cases z:x∈ps.map (·.1)
  ·rw [if_pos z];exact h.1
  ·rw [if_neg z,nodup_append]
   exact ⟨h.1,by simp,fun a B b W e=>z (by rw [mem_singleton.mp W] at e;rw [<- e];exact B)⟩
 ·rcases Zli hp with rfl | z
  ·exact ⟨J,D⟩
  ·exact h.2 p z
theorem HeldOk.but (h:HeldOk NS ps):HeldOk NS (YN ps x):=by
 have z:(YN ps x).Sublist ps:=Tu
 exact ⟨h.1.sublist (z.map (·.1)),fun p hp=>h.2 p (z.subset hp)⟩
theorem ZeI (ps:List (Str×V))(x:Str):Vs (ps.map kP) (QK x)=(YN ps x).map kP:=by
 unfold Vs YN
 rw [MQ]
 congr 1
 apply List.filter_congr
 intro p _
 show _=!decide (p.1=x)
 by_cases z:p.1=x
 ·simp [kP,z]
 ·simp [kP,z]
theorem Zev (h:lk ps x=none):YN ps x=ps:=by
 unfold YN
 rw [List.filter_eq_self]
 intro p hp
 have:p.1≠x:=fun z=>by
  have h2:∀ {l:List (Str×V)},(∃ p∈l,p.1=x)->lk l x≠none:=by
   intro l
   induction l with
   | nil=>rintro ⟨_,h,_⟩;cases h
   | cons a l ih =>
    rintro ⟨p,hp,e⟩
    rw [Wh]
    by_cases z:a.1=x
    ·rw [if_pos z];intro y;cases y
    ·rw [if_neg z]
     rcases mem_cons.mp hp with y | y
     ·rw [y] at e;exact absurd e z
     ·exact ih ⟨p,y,e⟩
  exact h2 ⟨p,hp,z⟩ h
 simp [this]
section
variable {P:Ql}{w:Qs}{K:Qa}{mg:Str->Option Qb}{base:Heap}{CR CS Pl:Addr}
theorem Zke (xs:List V):VW xs (some 1) none=xs.tail:=by
 unfold VW
 rw [show (1:Int)=((1:Nat):Int) from rfl,HT.sIx_nat]
 show (xs.drop (min 1 xs.length)).take (xs.length - min 1 xs.length)=xs.tail
 cases xs with
 | nil=>rfl
 | cons x r=>rw [RP (by rw [length_cons];omega)];show r.take (r.length+1 - 1)=r;rw [Nat.add_sub_cancel,take_of_length_le (Qe _)]
theorem ZpM (D:WfP pls):∀ k,k<=pls.length->∀ j∈(rd pls k).tail,∃ m q,j=m+1/\pls[m]?=some q:=by
 intro k
 induction k using RS with
 | ind k ih =>
  intro hk j hj
  cases k with
  | zero=>simp [rd,bk] at hj
  | succ k =>
   have B:=getElem?_eq_getElem (show k < pls.length by omega)
   have W:=D k _ B
   rw [Zme D B] at hj
   obtain ⟨Z,Y,J⟩:=Sb (Zmc pls pls[k].ah)
   rw [J] at hj
   rcases mem_append.mp (show j∈Y++[k+1] from hj) with z | z
   ·exact ih pls[k].ah (by omega) (by omega) j (by rw [J];exact z)
   ·exact ⟨k,_,mem_singleton.mp z,B⟩
theorem Zoa (h:HeldOk NS ps)(z:s.ok NS):HeldOk NS (foS s ps):=by
 cases s with
 | set x v=>exact h.put z.1 z.2
 | clr x=>exact h.but
inductive Zeg (vs:List V)(H:Hp)(Q:VK)(w_3:XK):Prop
 | mk (sl:Addr) (pls:List ZE) (k:Nat) (NS:List Str) (Δ:Rs):vs=[.ref sl,.int (k:Int)]->Sep ((sl,StopL pls)::Δ) H->WfP pls->k<=pls.length->pls.length<=500->(∀ q∈pls,q.st.ok NS)->NS.length<=60->(∀ (d:Addr) (H':Hp) (ps:List (Str×V)),Sep ((d,Dic (ps.map kP))::(sl,StopL pls)::Δ) H'->HeldOk NS ps->(envs pls)[k]?=some (lk ps)->Q (.ref d) H')->Zeg vs H Q w_3
abbrev nLl:List Str:=["_law_stops","_law_place","_law_found","_law_spot","_law_step_here"]
abbrev Zhv:List Str:=["_law_stops","_law_place"]
theorem scLl:Zp nLl Zhv (Zk s_l_all):={}
theorem Zos (F:Fun K "_law_all" "_law_all" s_l_all f fd)(T:Yl mg)(DRo:Def P w K mg base 4 "_law_road" Zld Zda):FnOk P w K mg base ZJ 5 f fd Zhv Zeg:=by
 refine F.ok scLl (fun cdv A outer s H vs Q E hr h=>?_)
 obtain ⟨W,pls,k,NS,Δ,rfl,S,hw,hk,hpl,hok,hNl,q⟩:=h
 refine' ⟨?t,?h,?r⟩
 case h =>
  conv=>arg 2;whnf
  with_reducible refine' (Ze ?h1 (Ze (Wt ?h2 ?h3 ?h4 ?h5 (Ze ?h6 (Zg (Yi ?h7 (Zg ?h8) (Zg ?h9)))) ?h10) (Zg ?h11)))
  case h1=>exact Zx (i:=2) scLl.nd rfl (Qy rfl) Zff
  case h2=>exact Ga
  case h3=>exact rfl
  case h4=>exact XT (WF ZcT (ZA DRo hr (Zb (pv 0) (Zb (pv 1) Za))) (WG Zd) Wj)
  case h5=>exact ZI (i:=3) scLl.nd rfl (Qy rfl)
  case h6=>exact Zx (i:=4) scLl.nd rfl (Qy rfl) (Zo ZO (Zo ZD (pv 0) (pv 3) (fun _ _=>rfl)) Zd (fun _ _=>rfl))
  case h7=>exact ZP Yo (Zo ZO (pv 4) Zd (fun _ _=>rfl)) ZU (ZH _)
  case h8=>exact ZaE (Ua hr) (pv 2) (Zo ZO (pv 4) Zd (fun _ _=>rfl)) (Zo ZO (pv 4) Zd (fun _ _=>rfl)) rfl
  case h9=>exact ZY (Zfg (pv 2) (Zo ZO (pv 4) Zd (fun _ _=>rfl)) UZ ⟨rfl,rfl,rfl,rfl⟩)
  case h10=>exact fun _=>rfl
  case h11=>exact Zn (pv 2)
 try dsimp only [ZR,Cx.nox]
 refine zs3 ?_
 intro zD zS zN2 zN1
 refine fun d hd=>?_
 generalize B:upd H d _=H1
 have S1:=S.newE hd B
 clear B
 refine ⟨_,rfl,_,rfl,W,pls,k,rfl,S1.get W,hw,hk,by omega,fun l H2 s2 hl2 el2=>?_⟩
 have S2:=S1.mono s2
 refine ⟨_,rfl,l,_,rfl,SqL.of el2,fun l3 hl3=>⟨l3,rfl,⟨_,SqL.of Zi⟩,?_⟩⟩
 rw [Zke]
 generalize B:upd H2 l3 _=H3
 have S3:=S2.newE hl3 B
 clear B
 have hlen:(rd pls k).tail.length<=501:=by
  rw [List.length_tail]
  unfold rd
  rw [length_reverse]
  have:=Zeu pls (k+1) k;omega
 refine ZeP (K:=K) (xs:=(rd pls k).tail.map nV) (fun i σ H'=>∃ x3 x4,σ=[some (.ref W),some (.int (k:Int)),some (.ref d),x3,x4]/\Sep ((d,Dic ((((rd pls k).tail.take i).foldl (foK pls) []).map kP))::(W,StopL pls)::(l3,Zv ((rd pls k).tail.map nV))::Δ) H'/\HeldOk NS (((rd pls k).tail.take i).foldl (foK pls) [])) ⟨_,_,rfl,?_,nodup_nil,fun _ h=>nomatch h⟩ (fun i σ H' _ h=>?_) ?_ ?_
 ·have D:Sep ((l3,Zv ((rd pls k).tail.map nV))::(d,Dic [])::(W,StopL pls)::Δ) H3:=by rw [List.map_tail];exact S3
  exact (D.pull W).pull d
 ·obtain ⟨_,_,_,S',_⟩:=h;exact SqL.of (S'.get l3)
 ·rintro i v σ H4 hv ⟨x3,x4,rfl,D,Z⟩
  rw [getElem?_map] at hv
  cases hj:(rd pls k).tail[i]? with
  | none=>rw [hj] at hv;cases hv
  | some j =>
   rw [hj] at hv
   cases (show some (nV j)=some v from hv)
   obtain ⟨m,q9,rfl,J⟩:=ZpM hw k hk j (mem_of_getElem? hj)
   have hm:=(Qg.mp J).1
   obtain ⟨xs,a,y,z,esl,hxa,ea,_,⟨b,s9,rfl,hs9,eb⟩,_⟩:=StopL.at (D.get W) (show m+1<=pls.length by omega)
   rw [getElem?_map,J] at hs9
   cases (show some q9.st=some s9 from hs9)
   have hsok:=hok q9 (mem_of_getElem? J)
   have hfo:((rd pls k).tail.take (i+1)).foldl (foK pls) []=foS q9.st (((rd pls k).tail.take i).foldl (foK pls) []):=by
    rw [take_succ,hj,Px]
    show foS (pls.getD m ⟨0,.clr "",0,0⟩).st _=_
    rw [getD_eq_getElem?_getD,J];rfl
   rw [hfo]
   generalize ((rd pls k).tail.take i).foldl (foK pls) []=ps at *
   have hps:ps.length<=60:=by have:=Z.few;omega
   refine ⟨_,rfl,_,rfl,W,_,_,_,rfl,rfl,SqL.of esl,Zr hxa,a,_,_,_,rfl,rfl,SqT.of ea,rfl,?_⟩
   have Y:=Zoa Z hsok
   generalize hst:q9.st=s9 at *
   have ed:=D.get d
   cases s9 with
   | set x v =>
    refine ⟨_,rfl,b,_,_,_,rfl,rfl,SqT.of eb,Zr (j:=0) rfl,rfl,_,rfl,?_⟩
    rw [decide_eq_true rfl]
    refine Yg ⟨_,rfl,b,_,_,_,rfl,rfl,SqT.of eb,Zr (j:=2) rfl,_,rfl,_,rfl,b,_,_,_,rfl,rfl,SqT.of eb,Zr (j:=1) rfl,d,_,rfl,DPut.k (k:=QK x) ed (YX (show _<=1000 by rw [length_map];omega)),?_⟩
    generalize B:upd H4 d _=H5
    have S5:=D.putE B
    clear B
    rw [show Yz (ps.map kP) (QK x) v=(Xi ps x v).map kP from VD ps x v] at S5
    exact ⟨_,_,rfl,S5,Y⟩
   | clr x =>
    refine ⟨_,rfl,b,_,_,_,rfl,rfl,SqT.of eb,Zr (j:=0) rfl,rfl,_,rfl,?_⟩
    rw [show decide (V.str "clear"=V.str (Qq "set"))=false by decide +kernel]
    refine ZN ⟨_,rfl,d,rfl,.inl ⟨_,.inl ed⟩,_,rfl,b,_,_,_,rfl,rfl,SqT.of eb,Zr (j:=1) rfl,_,QK x,ed,rfl,fun v ev=>?_,fun ev=>?_⟩
    ·generalize B:upd H4 d _=H5
     have S5:=D.putE B
     clear B
     rw [ZeI] at S5
     exact ⟨_,_,rfl,S5,Y⟩
    ·have e9:foS (.clr x) ps=ps:=Zev (show lk ps x=none from ev)
     rw [e9]
     exact ⟨_,_,rfl,D,Z⟩
 ·rintro σ H4 ⟨x3,x4,rfl,D,Z⟩
  rw [length_map,take_of_length_le (Qe _)] at D Z
  exact ⟨_,rfl,q d H4 _ (D.drop l3) Z (Zmp hw k hk)⟩
end
section
variable {P:Ql}{w:Qs}{K:Qa}{mg:Str->Option Qb}{base:Heap}{C Pl Pp:Addr}{NS:List Str}
abbrev Yx:YB:=Zeq XQ Wv
theorem Sep.afterPairs (Y:StoreAt K C st ln Z H nds D)(b0:nds[0]?=some .bare)(L:LamAt H Pp XQ Wv)(J:∀ H' nds' B,StoreAt K C st ln Z H' nds' B->nds'[0]?=some .bare->LamAt H' Pp XQ Wv->Kq [ln,Z,Pp] H H'->Sep ((st,Wa K C nds' B)::(Pp,Yx)::Δ) H')(g:Grown Pp H H')(L':LamAt H' Pp XQ Wv):Sep ((st,Wa K C nds D)::(Pp,Yx)::Δ) H':=by
 obtain ⟨tb,W⟩:=L.tbl
 have no:∀ {a:Addr} {o:HO},H a=some o->(∀ tb,o≠.tbl tb)->a ∉ [Pp]:=fun h1 h2 z=>by rw [mem_singleton.mp z,W] at h1;exact h2 _ (Qo h1).symm
 obtain ⟨dx,ob⟩:=Y.ob
 obtain ⟨as,nl,_⟩:=Y.nl
 exact J H' nds D (Y.kq g.kq (g.tf W) (no ob (by intro tb z;cases z)) (no nl (by intro tb z;cases z)) (no Y.tb (by intro tb z;cases z))) b0 L' (g.kq.sub fun b hb=>by simp at hb ⊢;exact .inr (.inr hb))
inductive Uw (K:Qa)(C Pp:Addr)(vs:List V)(H:Hp)(Q:VK)(w_3:XK):Prop
 | mk (NS:List Str) (st:Addr) (nds:List Nd) (tabs:List (Zj×V)) (t:Nat) (F:Str->Option V) (Δ:Rs):ZZ NS->vs=[.ref st,iN t]->Sep ((st,Wa K C nds tabs)::(Pp,Yx)::Δ) H->(ZG tabs (QD (t:Int))).isSome=true->Tri NS nds F 5 0 0 t->(∀ (l:Addr) (H':Hp) (ps:List (Str×V)),Sep ((l,PLs ps)::(st,Wa K C nds tabs)::(Pp,Yx)::Δ) H'->PsOf NS F 0 0 ps->YS ps->Q (.ref l) H')->Uw K C Pp vs H Q w_3
theorem Znc {k:Nat}(h:∀ NS,ZZ NS->FnOk P w K mg base ZJ k f fd ps (VI K C Pp NS)):FnOk P w K mg base ZJ k f fd ps (Uw K C Pp) :=
 (FnOk.ex h).conv fun vs H Q E zz=>by
  obtain ⟨NS,st,nds,D,t,F,Δ,N,e,S,h1,h2,q⟩:=zz
  obtain ⟨ln,dt,SA,b0,L,B⟩:=S.stoLam
  refine ⟨NS,N,st,ln,dt,nds,D,t,F,e,SA,h1,h2,L,fun l H' ts ps hl g L' J Z W hsr=>q l H' ps ?_ W hsr⟩
  have g2:Grown Pp H (but H' l):=fun b o nb e=>by rw [ZbE (Zs e hl)];exact g b o nb e
  have L2:LamAt (but H' l) Pp XQ Wv:=by
   rcases L' with z | ⟨c,Y,z2⟩
   ·exact .inl (by rw [ZbE (fun y=>by rw [y,J] at z;cases z)];exact z)
   ·exact .inr ⟨c,by rw [ZbE (fun y=>by rw [y,J] at Y;cases Y)];exact Y,by rw [ZbE (fun y=>by rw [y,J] at z2;cases z2)];exact z2⟩
  exact (Sep.made (Sep.afterPairs SA b0 L B g2 L2) ZnT ZnS J).pls Z
inductive ZaI (K:Qa)(C:Addr)(vs:List V)(H:Hp)(Q:VK)(w_3:XK):Prop
 | mk (NS:List Str) (st:Addr) (nds:List Nd) (tabs:List (Zj×V)) (t:Nat) (x:Str) (F:Str->Option V):ZZ NS->vs=[.ref st,iN t,.str x]->Wa K C nds tabs st H->(ZG tabs (QD (t:Int))).isSome=true->Tri NS nds F 5 0 0 t->x∈NS->(∀ H',Same H H'->Q ((F x).getD .non) H')->ZaI K C vs H Q w_3
theorem Zop {k:Nat}(h:FnOk P w K mg base ZJ k f fd ps (WL K C)):FnOk P w K mg base ZJ k f fd ps (ZaI K C) :=
 h.conv fun vs H Q E Z=>by
  obtain ⟨NS,st,nds,B,t,x,F,N,e,⟨b0,ln,J,S⟩,h1,h2,D,q⟩:=Z
  obtain ⟨Y,z,n,e1,e2,W,e4,e5⟩:=Uf N h2 D
  exact ⟨st,ln,J,nds,B,t,x,6,Y,z,n,e,S,h1,N.len x D,N.lo x D,by decide,e1,e2,W,e4,fun H' s=>by rw [e5];exact q H' s⟩
end
def Xn (K:Qa)(CR CS:Addr)(pls:List ZE)(nds:List Nd)(tabs:List (Zj×V))(st:Addr):YB:=fun r h=>∃ la ls lt lc,Sep (Zcz K CR CS pls nds tabs r st la ls lt lc) h
instance {K:Qa} {CR CS:Addr} {pls:List ZE} {nds:List Nd} {tabs:List (Zj×V)} {st:Addr}:Up (Xn K CR CS pls nds tabs st):=⟨fun ⟨la,ls,lt,lc,S⟩ s=>⟨la,ls,lt,lc,S.mono s⟩⟩
theorem rxO {K:Qa}{CR CS r st:Addr}{pls:List ZE}{nds:List Nd}{z:List (Zj×V)}{Δ:Rs}{H:Hp}(S:Sep ((r,Xn K CR CS pls nds z st)::Δ) H):∃ B D lt J,Sep ((r,Vh CR (WW st B D lt J))::(st,Wa K CS nds z)::(B,Zv (V.non::pls.map fun q=>V.int (q.ah:Int)))::(D,Uk (pls.map (·.st)))::(lt,Zv (V.int 0::pls.map fun q=>V.int (q.tb:Int)))::(J,Zv (V.int 0::pls.map fun q=>V.int (q.co:Int)))::Δ) H:=by
 obtain ⟨h,l,⟨B,D,lt,J,G⟩,S⟩:=S
 exact ⟨B,D,lt,J,Sep.nest (a:=r) (Γ:=Zcz K CR CS pls nds z r st B D lt J) l G S⟩
theorem rxC {K:Qa}{CR CS r st B D lt J:Addr}{pls:List ZE}{nds:List Nd}{z:List (Zj×V)}{Δ:Rs}{H:Hp}(S:Sep ((r,Vh CR (WW st B D lt J))::(st,Wa K CS nds z)::(B,Zv (V.non::pls.map fun q=>V.int (q.ah:Int)))::(D,Uk (pls.map (·.st)))::(lt,Zv (V.int 0::pls.map fun q=>V.int (q.tb:Int)))::(J,Zv (V.int 0::pls.map fun q=>V.int (q.co:Int)))::Δ) H):Sep ((r,Xn K CR CS pls nds z st)::Δ) H :=
 Sep.pack (Γ:=Zcz K CR CS pls nds z r st B D lt J) S fun h G=>⟨B,D,lt,J,G⟩
section
variable {P:Ql}{w:Qs}{K:Qa}{mg:Str->Option Qb}{base:Heap}{CR CS Pl Pp:Addr}
inductive ZhQ (K:Qa)(CR CS:Addr)(vs:List V)(H:Hp)(Q:VK)(w_3:XK):Prop
 | mk (NS:List Str) (r:Addr) (pls:List ZE) (nds:List Nd) (tabs:List (Zj×V)) (k:Nat) (x:Str) (F:Str->Option V):vs=[.ref r,.int (k:Int),.str x]->ZZ NS->RdR K CR CS r pls nds tabs H->RInv NS pls nds tabs->k<=pls.length->(envs pls)[k]?=some F->x∈NS->(∀ H',Same H H'->Q ((F x).getD .non) H')->ZhQ K CR CS vs H Q w_3
abbrev nRLk:List Str:=["self","place","name"]
abbrev Zhz:List Str:=["self","place","name"]
theorem ZpW:Zp nRLk Zhz (Zk c_Roads_looked):={}
theorem Zox (F:Fun K "looked" "Roads.looked" c_Roads_looked f fd)(T:Yl mg)(J:Xo K CR)(TC:YY K CS)(B:DefM P w K mg base 9 CR "table" VA (WM K CR CS))(z:DefM P w K mg base 9 CS "looked" ["self","table","name"] (ZaI K CS)):FnOk P w K mg base ZJ 10 f fd Zhz (ZhQ K CR CS):=by
 refine F.ok ZpW (fun cdv A outer s H vs Q E Z h=>?_)
 obtain ⟨NS,r,pls,nds,D,k,x,G,rfl,N,R,I,hk,hG,hx,q⟩:=h
 obtain ⟨st,la,ls,lt,lc,S⟩:=id R
 obtain ⟨dx,ob⟩:=S.get r
 have ST:=S.get st
 obtain ⟨b0,ln,dt,SA⟩:=id ST
 obtain ⟨W,Y⟩:=SA.ob
 obtain ⟨g1,g2,g3⟩:=I.tr k G _ hG (XL hk)
 refine' ⟨?t,?h,?r⟩
 case h =>
  conv=>arg 2;whnf
  with_reducible refine' (Zg ?h1)
  case h1=>exact Zn (ZT z TC.cl Z (ZS (pv 0) rfl) (Zb (ZT B J.cl Z (pv 0) (Zb (pv 1) Za)) (Zb (pv 2) Za)))
 try dsimp only [ZR,Cx.nox]
 exact ⟨_,rfl,r,CR,dx,_,_,rfl,ob,J.cl,J.nk,Zai,st,W,_,rfl,Y,ZM ln dt (by decide +kernel) (by decide +kernel),_,rfl,r,dx,_,rfl,ob,Yq (by decide +kernel),_,rfl,r,pls,nds,D,k,rfl,R,hk,_,rfl,NS,st,nds,D,VO pls k,x,G,N,rfl,ST,g1,g2,hx,q⟩
inductive Zel (CR:Addr)(vs:List V)(H:Hp)(Q:VK)(w_3:XK):Prop
 | mk (r st la ls lt lc dx:Addr):vs=[.ref r]->H r=some (.ins CR dx (WW st la ls lt lc))->Q (.ref st) H->Zel CR vs H Q w_3
abbrev nRSo:List Str:=["self"]
abbrev Zef:List Str:=["self"]
theorem ZpZ:Zp nRSo Zef (Zk c_Roads_store):={}
theorem ZoA (F:Fun K "store" "Roads.store" c_Roads_store f fd)(T:Yl mg)(z:Xo K CR):FnOk P w K mg base ZJ 1 f fd Zef (Zel CR):=by
 refine F.ok ZpZ (fun B A outer s H vs Q E J h=>?_)
 obtain ⟨r,st,W,Y,lt,Z,dx,rfl,D,q⟩:=h
 refine' ⟨?t,?h,?r⟩
 case h =>
  conv=>arg 2;whnf
  with_reducible refine' (Zg ?h1)
  case h1=>exact Zn (ZS (pv 0) rfl)
 try dsimp only [ZR,Cx.nox]
 exact ⟨_,rfl,r,CR,dx,_,_,rfl,D,z.cl,z.nk,Zai,q⟩
inductive Zei (K:Qa)(CR CS Pp:Addr)(vs:List V)(H:Hp)(Q:VK)(w_3:XK):Prop
 | mk (NS:List Str) (r st:Addr) (pls:List ZE) (nds:List Nd) (tabs:List (Zj×V)) (k:Nat) (F:Str->Option V) (Δ:Rs):vs=[.ref r,.int (k:Int)]->ZZ NS->Sep ((r,Xn K CR CS pls nds tabs st)::(Pp,Yx)::Δ) H->RInv NS pls nds tabs->k<=pls.length->(envs pls)[k]?=some F->(∀ (fl:Addr) (H':Hp) (qs:List (Str×V)),Sep ((fl,PLs qs)::(r,Xn K CR CS pls nds tabs st)::(Pp,Yx)::Δ) H'->PsOf NS F 0 0 qs->Ug qs->Q (.ref fl) H')->Zei K CR CS Pp vs H Q w_3
abbrev nRAt:List Str:=["self","place"]
abbrev Zeb:List Str:=["self","place"]
theorem ZpR:Zp nRAt Zeb (Zk c_Roads_all_at):={}
theorem Zou (F:Fun K "all_at" "Roads.all_at" c_Roads_all_at f fd)(T:Yl mg)(Y:Xo K CR)(TC:YY K CS)(B:DefM P w K mg base 9 CR "table" VA (WM K CR CS))(z:DefM P w K mg base 9 CS "pairs" ZcQ (Uw K CS Pp)):FnOk P w K mg base ZJ 10 f fd Zeb (Zei K CR CS Pp):=by
 refine F.ok ZpR (fun cdv A outer s H vs Q E hr h=>?_)
 obtain ⟨NS,r,st,pls,nds,D,k,G,Δ,rfl,N,S0,I,hk,hG,q⟩:=h
 obtain ⟨Z,ls0,W,J,R0⟩:=S0.get r
 have R:RdR K CR CS r pls nds D H:=⟨st,Z,ls0,W,J,R0⟩
 obtain ⟨la,ls,lt,lc,S⟩:=rxO S0
 obtain ⟨dx,ob⟩:=S.get r
 have ST:=S.get st
 obtain ⟨b0,ln,dt,SA⟩:=id ST
 obtain ⟨dxs,obs⟩:=SA.ob
 obtain ⟨g1,g2,g3⟩:=I.tr k G _ hG (XL hk)
 refine' ⟨?t,?h,?r⟩
 case h =>
  conv=>arg 2;whnf
  with_reducible refine' (Zg ?h1)
  case h1=>exact Zn (ZT z TC.cl hr (ZS (pv 0) rfl) (Zb (ZT B Y.cl hr (pv 0) (Zb (pv 1) Za)) Za))
 try dsimp only [ZR,Cx.nox]
 refine ⟨_,rfl,r,CR,dx,_,_,rfl,ob,Y.cl,Y.nk,Zai,st,dxs,_,rfl,obs,ZM ln dt (by decide +kernel) (by decide +kernel),_,rfl,r,dx,_,rfl,ob,Yq (by decide +kernel),_,rfl,r,pls,nds,D,k,rfl,R,hk,NS,st,nds,D,VO pls k,G,_,N,rfl,(S.pull Pp).pull st,g1,g2,fun fl H6 qs S6 hqs hsr=>?_⟩
 have S7:=rxC ((((((((S6.pull Pp).pull lc).pull lt).pull ls).pull la).pull st).pull r))
 exact q fl H6 qs ((S7.pull fl)) hqs hsr
end
section
variable {P:Ql}{w:Qs}{K:Qa}{mg:Str->Option Qb}{base:Heap}{CR CS Pl Pp:Addr}
inductive Zej (vs:List V)(H:Hp)(Q:VK)(w_3:XK):Prop
 | mk (u v:_):vs=[u,v]->NvV u->NvV v->Q (.bl (decide (u=v))) H->Zej vs H Q w_3
abbrev nLA2:List Str:=["_law_one","_law_other"]
abbrev ZdZ:List Str:=["_law_one","_law_other"]
theorem ZpO:Zp nLA2 ZdZ (Zk s_l_alike):={}
theorem Zhk (F:Fun K "_law_alike" "_law_alike" s_l_alike f fd)(T:Yl mg):FnOk P w K mg base ZJ 1 f fd ZdZ Zej:=by
 refine F.ok ZpO (fun B A outer s H vs Q E Y h=>?_)
 obtain ⟨u,v,rfl,D,J,q⟩:=h
 refine' ⟨?t,?h,?r⟩
 case h =>
  conv=>arg 2;whnf
  with_reducible refine' (Ze (Yi ?h1 (Zg ?h2) ZV) (Zg ?h3))
  case h1=>exact PW.pt (ZhF (Wu (Zz XD rfl T.isinstance (by decide +kernel) (Zb (pv 0) (Zb (Wi rfl T.bool (by decide +kernel) (v:=.ty "bool") rfl) Za)))) (Zfn (ZP Zce (Zch (Zah (pv 0))) (Zch (Zah (pv 1))) (ZH _))))
  case h2=>exact Zn Uc
  case h3=>exact Zn (WU (YK Yo (Zz XD rfl T.isinstance (by decide +kernel) (Zb (pv 0) (Zb (Wi rfl T.str (by decide +kernel) (v:=.ty "str") rfl) Za))) (Zz XD rfl T.isinstance (by decide +kernel) (Zb (pv 1) (Zb (Wi rfl T.str (by decide +kernel) (v:=.ty "str") rfl) Za))) (ZH _)) (Va (YK Yo (pv 0) (pv 1) (ZH _))))
 try dsimp only [ZR,Cx.nox]
 refine UI ?_
 intro Z zS W
 rcases Zbh D with rfl | ⟨i,rfl⟩ | ⟨x,rfl⟩<;>rcases Zbh J with rfl | ⟨j,rfl⟩ | ⟨y,rfl⟩
 ·refine ⟨_,rfl,_,_,_,_,rfl,.non,rfl,_,rfl,ZN ⟨_,rfl,_,rfl,rfl,_,rfl,?_⟩⟩
  refine ZN ⟨_,rfl,_,_,_,_,rfl,.non,rfl,_,rfl,_,_,_,_,rfl,.non,rfl,rfl,true,?_,Yg ⟨_,rfl,_,rfl,rfl,q⟩⟩
  rw [decide_eq_true rfl]
 ·refine ⟨_,rfl,_,_,_,_,rfl,.non,rfl,_,rfl,ZN ⟨_,rfl,_,rfl,rfl,_,rfl,?_⟩⟩
  exact Yg (by rw [decide_eq_false (fun z=>by cases z)] at q;exact q)
 ·refine ⟨_,rfl,_,_,_,_,rfl,.non,rfl,_,rfl,ZN ⟨_,rfl,_,rfl,rfl,_,rfl,?_⟩⟩
  exact Yg (by rw [decide_eq_false (fun z=>by cases z)] at q;exact q)
 ·refine ⟨_,rfl,_,_,_,_,rfl,.int _,rfl,_,rfl,ZN ⟨_,rfl,_,rfl,rfl,_,rfl,?_⟩⟩
  exact Yg (by rw [decide_eq_false (fun z=>by cases z)] at q;exact q)
 ·refine ⟨_,rfl,_,_,_,_,rfl,.int _,rfl,_,rfl,ZN ⟨_,rfl,_,rfl,rfl,_,rfl,?_⟩⟩
  refine ZN ⟨_,rfl,_,_,_,_,rfl,.int _,rfl,_,rfl,_,_,_,_,rfl,.int _,rfl,rfl,true,?_,Yg ⟨_,rfl,_,rfl,rfl,q⟩⟩
  rw [decide_eq_true rfl]
 ·refine ⟨_,rfl,_,_,_,_,rfl,.int _,rfl,_,rfl,ZN ⟨_,rfl,_,rfl,rfl,_,rfl,?_⟩⟩
  refine ZN ⟨_,rfl,_,_,_,_,rfl,.int _,rfl,_,rfl,_,_,_,_,rfl,.str _,rfl,rfl,false,?_,ZN (by rw [decide_eq_false (fun z=>by cases z)] at q;exact q)⟩
  rw [decide_eq_false (fun z=>by cases z)]
 ·refine ⟨_,rfl,_,_,_,_,rfl,.str _,rfl,_,rfl,ZN ⟨_,rfl,_,rfl,rfl,_,rfl,?_⟩⟩
  exact Yg (by rw [decide_eq_false (fun z=>by cases z)] at q;exact q)
 ·refine ⟨_,rfl,_,_,_,_,rfl,.str _,rfl,_,rfl,ZN ⟨_,rfl,_,rfl,rfl,_,rfl,?_⟩⟩
  refine ZN ⟨_,rfl,_,_,_,_,rfl,.str _,rfl,_,rfl,_,_,_,_,rfl,.int _,rfl,rfl,false,?_,ZN (by rw [decide_eq_false (fun z=>by cases z)] at q;exact q)⟩
  rw [decide_eq_false (fun z=>by cases z)]
 ·refine ⟨_,rfl,_,_,_,_,rfl,.str _,rfl,_,rfl,ZN ⟨_,rfl,_,rfl,rfl,_,rfl,?_⟩⟩
  refine ZN ⟨_,rfl,_,_,_,_,rfl,.str _,rfl,_,rfl,_,_,_,_,rfl,.str _,rfl,rfl,true,?_,Yg ⟨_,rfl,_,rfl,rfl,q⟩⟩
  rw [decide_eq_true rfl]
end
end K24
namespace L2
open PySem PySem.Spec PyProof.Rows
section
variable {X:Cx}
end
theorem Vp {K:Qa}(hn:xs.length<=Qi)(z:Nat->List V->Hp->Prop)(h0:z 0 [] (upd H D (.lst [])))(hl:∀ i ys H,z i ys H->ys.length=i/\SqL K H a xs)(hs:∀ i x ys H J Y,xs[i]?=some x->z i ys H->g x (σ++[J,Y]) H fun Z H'=>(∃ J Y,Z=σ++[J,Y])/\te Z H' fun y W=>W D=some (.lst ys)/\z (i+1) (ys++[y]) (upd W D (.lst (ys++[y]))))(hd:∀ ys H,z xs.length ys H->Q (.ref D) H):CompT (Itl K a) g te σ D Q H:=by
 refine ⟨fun i m ys H=>m=xs.length - i/\i<=xs.length/\z i ys H,⟨xs.length,by simp,Qw _,h0⟩,?_⟩
 rintro i m ys H2 ⟨rfl,hi,p⟩
 obtain ⟨hlen,el⟩:=hl i ys _ p
 by_cases B:i < xs.length
 ·have ha:=getElem?_eq_getElem B
  refine .inr ⟨⟨_,_,el,ha⟩,_,fun y W (q:W D=some (.lst ys)/\z (i+1) (ys++[y]) (upd W D (.lst (ys++[y]))))=>⟨q.1,by omega,xs.length - (i+1),by omega,rfl,B,q.2⟩,fun J Y v H3 y=>?_⟩
  obtain ⟨e1,e2⟩:=y
  subst e1
  exact hs i _ ys _ J Y (e2 _ el) p
 ·have e:i=xs.length:=by omega
  subst e
  exact .inl ⟨⟨_,el,Qe _⟩,hd ys H2 p⟩
end L2
namespace K24
open PySem L2
theorem ZmG (h:Yt x):YA x:=fun c z=>by
 have:=all_eq_true.mp h.2.2 c z
 unfold WD at this
 simp only [QO,decide_eq_true_eq] at this
 omega
theorem VE (h:HeldOk NS ps)(g:PsOf NS (lk ps) 0 0 qs)(z:Str×V):z∈qs↔z∈ps:=by
 obtain ⟨x,v⟩:=z
 rw [g.2 x v]
 constructor
 ·rintro ⟨_,_,e⟩;exact (YC h.1).mp e
 ·intro e;exact ⟨(h.2 _ e).1,by rw [Ja,Ju],(YC h.1).mpr e⟩
theorem Zhq (h:HeldOk NS ps)(g:PsOf NS (lk ps) 0 0 qs)(W:YS qs)(hp:ys.Perm (ps.map (·.1)))(J:Zas ys):qs=ys.map fun y=>(y,(lk ps y).getD .non):=by
 refine ZaN W ?_ g.1 ?_ fun z=>?_
 ·unfold YS;rw [pairwise_map];exact J
 ·rw [map_map]
  show (ys.map fun y=>y).Nodup
  rw [NQ]
  exact hp.nodup_iff.mpr h.1
 ·rw [VE h g z,mem_map]
  constructor
  ·intro hz
   refine ⟨z.1,hp.mem_iff.mpr (mem_map.mpr ⟨z,hz,rfl⟩),?_⟩
   rw [(YC h.1).mpr (show (z.1,z.2)∈ps from hz)];rfl
  ·rintro ⟨y,B,rfl⟩
   obtain ⟨w,D,rfl⟩:=mem_map.mp (hp.mem_iff.mp B)
   rw [(YC h.1).mpr (show (w.1,w.2)∈ps from D)];exact D
section
variable {P:Ql}{w:Qs}{K:Qa}{mg:Str->Option Qb}{base:Heap}{CR CS Pl Pp:Addr}
inductive ZhS (vs:List V)(H:Hp)(Q:VK)(w_3:XK):Prop
 | mk (fl d:Addr) (NS:List Str) (ps qs:List (Str×V)):vs=[.ref fl,.ref d]->(∀ x∈NS,Yt x)->NS.length<=60->PLs qs fl H->H d=some (.dK (ps.map kP))->HeldOk NS ps->PsOf NS (lk ps) 0 0 qs->YS qs->(∀ H',Same H H'->Q (.bl true) H')->ZhS vs H Q w_3
abbrev nSm:List Str:=["_law_found","_law_due"]
abbrev ZhD:List Str:=["_law_found","_law_due"]
theorem scSm:Zp nSm ZhD (Zk s_l_same):={}
theorem ZpH (F:Fun K "_law_same" "_law_same" s_l_same f fd)(T:Yl mg)(DLA:Def P w K mg base 9 "_law_alike" Zea Zek):FnOk P w K mg base ZJ 10 f fd ZhD ZhS:=by
 refine F.ok scSm (fun cdv A outer s H vs Q E hr h=>?_)
 obtain ⟨fl,d,NS,ps,qs,rfl,hN,hNl,⟨ts,efl,B⟩,ed,J,hqs,hsr,q⟩:=h
 have hql:qs.length<=60:=by have:=hqs.few;omega
 have hpl:ps.length<=60:=by have:=J.few;omega
 have hall:∀ p∈qs,Yt p.1/\IsVal p.2:=fun p hp=>have z:=J.2 p ((VE J hqs p).mp hp);⟨hN _ z.1,z.2⟩
 refine' ⟨?t,?h,?r⟩
 case h =>
  conv=>arg 2;whnf
  with_reducible refine' (Ze (Yi ?h1 (Zg ?h2) ZV) (Zg ?h3))
  case h1=>exact ZP (ZoE hr.units) (Vz (xa:="_law_name") (xb:="_law_value_here") (CompOkT.of nSm s_l_same rfl rfl (by decide +kernel)) rfl (XT (pv 0)) (fun _ _ _ _ _=>Vb (K:=K) rfl rfl (ZI (i:=2) (show (UM nSm "_law_name" "_law_value_here"++(["_law_name","_law_value_here"]:List Str)).Nodup by decide +kernel) rfl (Qy rfl) (Jg rfl)) (ZI (i:=3) (show (UM nSm "_law_name" "_law_value_here"++(["_law_name","_law_value_here"]:List Str)).Nodup by decide +kernel) rfl (Qy rfl) (Jg rfl)))  (fun _ _ _ _ _=>pv 2)) (Zz ZaY rfl T.sorted (by decide +kernel) (Zb (Yk (UV rfl) rfl T.list (by decide +kernel) (Zb (pv 1) Za)) Za)) (ZH _)
  case h2=>exact Zn Uc
  case h3=>exact Zn (Zz (ZaW rfl) rfl T.all (by decide +kernel) (Zb (Vz (xa:="_law_name") (xb:="_law_value_here") (CompOkT.of nSm s_l_same rfl rfl (by decide +kernel)) rfl (XT (pv 0)) (fun _ _ _ _ _=>Vb (K:=K) rfl rfl (ZI (i:=2) (show (UM nSm "_law_name" "_law_value_here"++(["_law_name","_law_value_here"]:List Str)).Nodup by decide +kernel) rfl (Qy rfl) (Jg rfl)) (ZI (i:=3) (show (UM nSm "_law_name" "_law_value_here"++(["_law_name","_law_value_here"]:List Str)).Nodup by decide +kernel) rfl (Qy rfl) (Jg rfl)))  (fun _ _ _ _ _=>ZA DLA hr (Zb (pv 3) (Zb (Znf (Ua hr) (pv 1) (pv 2) (fun _ _=>rfl)) Za)))) Za))
 try dsimp only [ZR,Cx.nox]
 refine UI ?_
 intro zD zS zN1
 refine ⟨_,rfl,fl,rfl,⟨_,SqL.of efl⟩,fun D hD=>?_⟩
 refine Vp (K:=K) (xs:=ts.map V.ref) (Yy (show _<=1000 by rw [length_map,B.1];omega)) (fun i zs H'=>Same H H'/\H' D=some (.lst zs)/\i<=qs.length/\zs=(qs.take i).map fun p=>V.str p.1) ⟨ZC hD _,Zi,Qw _,rfl⟩ ?_ ?_ ?_
 ·rintro i zs H' ⟨s4,_,hi,rfl⟩;exact ⟨by rw [length_map,length_take];omega,SqL.of (s4 _ _ efl)⟩
 ·rintro i v zs H' wa wb hx ⟨s4,eD,hi,rfl⟩
  rw [getElem?_map] at hx
  obtain ⟨t0,Y,rfl⟩:=Gq.mp hx
  have hlt:i < qs.length:=by have:=(Qg.mp Y).1;have:=B.1;omega
  have hq:=getElem?_eq_getElem hlt
  generalize qs[i]'hlt=W at hq
  refine ⟨t0,_,rfl,SqT.of (s4 _ _ (B.2 i t0 W Y hq)),rfl,_,_,rfl,_,_,rfl,rfl,⟨_,_,rfl⟩,?_⟩
  refine ⟨_,rfl,eD,fun b o q=>?_,Zi,hlt,?_⟩
  ·rw [Zl (Zs q hD)];exact s4 _ _ q
  ·rw [take_succ,hq,map_append];rfl
 rintro zs H1 ⟨s1,eD,_,rfl⟩
 rw [length_map,B.1,take_of_length_le (Qe _)] at eD
 have ed1:=s1 _ _ ed
 refine ⟨_,rfl,d,_,rfl,ed1,fun l1 hl1=>?_⟩
 have s2:=ZC hl1 (.lst ((ps.map kP).map fun p=>kV p.1))
 have el1:upd H1 l1 (.lst ((ps.map kP).map fun p=>kV p.1)) l1=some (.lst ((ps.map Prod.fst).map V.str)):=by rw [Zi,map_map,map_map];rfl
 generalize upd H1 l1 (.lst ((ps.map kP).map fun p=>kV p.1))=H2 at s2 el1
 refine ⟨l1,ps.map Prod.fst,rfl,el1,by rw [length_map];omega,fun l2 ys hl2 Z hsort=>?_⟩
 have s3:=ZC hl2 (.lst (ys.map V.str))
 have el2:upd H2 l2 (.lst (ys.map V.str)) l2=_:=Zi
 generalize upd H2 l2 (.lst (ys.map V.str))=H3 at s3 el2
 have hqe:=Zhq J hqs hsr Z hsort
 have hcp:∀ y∈ys,YA y:=fun y hy9=>by
  obtain ⟨z,hz,rfl⟩:=mem_map.mp (Z.mem_iff.mp hy9)
  exact ZmG (hN _ (J.2 z hz).1)
 have eD3:H3 D=some (.lst (ys.map V.str)):=by
  have:=s3 _ _ (s2 _ _ eD)
  rw [this,hqe,map_map];rfl
 obtain ⟨d1,z1,z2,z3,z4⟩:=ZdL eD3 hcp
 obtain ⟨d2,y1,y2,y3,y4⟩:=ZdL el2 hcp
 subst z2 y2
 refine ⟨_,_,z1,y1,z3,y3,z4,_,rfl,?_⟩
 rw [SeqAt.eqv_refl _ z3]
 refine ZN ?_
 have s13:=(s1.trans s2).trans s3
 have ed3:=s13 _ _ ed
 have efl3:=s13 _ _ efl
 clear z1 z3 z4 y1 y3 y4
 refine ⟨_,rfl,fl,rfl,⟨_,SqL.of efl3⟩,fun D2 hD2=>?_⟩
 refine Vp (K:=K) (xs:=ts.map V.ref) (Yy (show _<=1000 by rw [length_map,B.1];omega)) (fun i zs H'=>Same H3 H'/\H' D2=some (.lst zs)/\zs=(QJ i true).map V.bl) ⟨ZC hD2 _,Zi,rfl⟩ ?_ ?_ ?_
 ·rintro i zs H' ⟨s4,_,rfl⟩;exact ⟨by simp,SqL.of (s4 _ _ efl3)⟩
 ·rintro i v zs H' wa wb hx ⟨s4,eD2,rfl⟩
  rw [getElem?_map] at hx
  obtain ⟨t0,Y,rfl⟩:=Gq.mp hx
  have hlt:i < qs.length:=by have:=(Qg.mp Y).1;have:=B.1;omega
  have hq:=getElem?_eq_getElem hlt
  generalize qs[i]'hlt=W at hq
  have et:=s4 _ _ (s13 _ _ (B.2 i t0 W Y hq))
  have hqm:=mem_of_getElem? hq
  have hlk:lk ps W.1=some W.2:=(YC J.1).mpr ((VE J hqs W).mp hqm)
  have hg:=DGet.k (k:=QK W.1) (s4 _ _ ed3)
  rw [show ZG (ps.map kP) (QK W.1)=some W.2 from hlk] at hg
  refine ⟨t0,_,rfl,SqT.of et,rfl,_,_,rfl,_,_,rfl,rfl,⟨_,_,rfl⟩,?_⟩
  refine ⟨_,rfl,_,rfl,_,rfl,d,W.2,rfl,hg,?_⟩
  dsimp only [Xr]
  refine ⟨W.2,rfl,.inr (hall W hqm).2,eD2,fun b o q=>?_,Zi,?_⟩
  ·rw [Zl (Zs q hD2)];exact s4 _ _ q
  ·rw [Tn,map_append];rfl
 rintro zs H7 ⟨s7,eD2,rfl⟩
 dsimp only [Xr]
 refine ⟨D2,_,rfl,SqL.of eD2,?_⟩
 rw [show ∀ k,(QJ k true).all id=true from fun k=>by simp]
 exact q _ (s13.trans s7)
end
end K24
namespace L2
open PySem PySem.Spec PyProof.Rows
section
variable {X:Cx}
end
def ZgQ (x:Str):It:=⟨fun i _=>i < x.cps.size,fun i H v H'=>∃ t c,H t=none/\x.cps[i]?=some c/\v=.ref t/\H'=upd H t (.tup [.int (i:Int),.str ⟨#[c]⟩]),fun i _=>x.cps.size<=i⟩
theorem ZhX {P:Ql}{w:Qs}{K:Qa}{elts:List Expr}{x1:Nat}{tp:Pos}(x:Str)(t:Tok)(e J:Addr)(Y:e≠J) :
 VT P w K (.Tuple elts x1 tp) (ZgQ x) [e,J] e (fun i h=>(∃ B,IsEnum h e J (i:Int) B)/\h.IsStrIter J (GM x) x t i/\i<=x.cps.size) where
 mem:=by simp
 obj:=fun i h st b hb=>by
  obtain ⟨⟨B,W⟩,⟨o,Z,c,d⟩,_⟩:=st
  rcases mem_cons.mp hb with q | hb
  ·rw [q];exact ⟨_,W,fun v z=>by cases z⟩
  ·rw [mem_singleton.mp hb];exact ⟨o,Z,fun v z=>by rw [d] at z;cases z⟩
 keep:=fun i h h' st k=>by
  obtain ⟨⟨B,W⟩,⟨o,Z,r⟩,hi⟩:=st
  exact ⟨⟨B,k e (by simp) _ W⟩,⟨o,k J (by simp) o Z,r⟩,hi⟩
 item:=by
  intro X hP hw hK hc i pins s σ H E I hf st hg
  subst hP hw hK
  obtain ⟨⟨B,W⟩,hs,hi⟩:=st
  have hlt:i < x.cps.size:=hg
  have D:=UC (prog:=X.prog) (w:=X.w) (A:=X.A.in1) (I.ok.hd hc) J x t
  refine Pd (i:=i) D W hs hlt Y (by simpa using Y) fun v h' tk hP hOut hst hT hsz hk=>?_
  obtain ⟨c,u,hcc,rfl⟩:=hP
  have hel:e < s.heap.objs.size:=Qj W
  have hil:J < s.heap.objs.size:=by obtain ⟨o,Z,_⟩:=hs;exact Qj Z
  refine ⟨_,rfl,JK hOut fun h2 he2 hs2=>?_⟩
  generalize hO:({ cls:=.type "tuple",data:=.seq #[.int ((i:Nat):Int) tk,.str ⟨#[c]⟩ u] }:Obj)=O at hT
  have I1:Inv X pins σ (upd H s.heap.objs.size (.tup [.int (i:Int),.str ⟨#[c]⟩])) { s with heap:=s.heap.push O,toks:=tk+1 }:=by
   refine I.laid (t':=tk+1) (fun b o y=>Qc _ y) (Qe _) (show ObjOk X.prog X.w _ _ _ (.tup _) from ⟨by show 2<=Qi;decide,[.int ((i:Nat):Int) tk,.str ⟨#[c]⟩ u],.cons ⟨tk,rfl⟩ (.cons ⟨u,rfl⟩ .nil),?_⟩)
   rw [<- hO];exact SY _ _
  have hfree:=I.hok.fresh (Qe s.heap.objs.size)
  have hf2:∀ b∈[e,J],Wd X pins (upd H s.heap.objs.size (.tup [.int (i:Int),.str ⟨#[c]⟩])) b:=fun b hb=>by
   obtain ⟨f0,f1⟩:=hf b hb
   have hb':b≠s.heap.objs.size:=by
    rcases mem_cons.mp hb with q | hb
    ·rw [q];exact Qn hel
    ·rw [mem_singleton.mp hb];exact Qn hil
   exact ⟨by rw [Zl hb'];exact f0,f1⟩
  have I2:Inv X pins σ (upd H s.heap.objs.size (.tup [.int (i:Int),.str ⟨#[c]⟩])) { s with heap:=h2,toks:=tk+1 }:=by
   refine I1.turned2 (t':=tk+1) (h':=h2) (fun b o hb y=>?_) hf2
   have hbe:b≠e:=fun q=>hb (by simp [q])
   have hbi:b≠J:=fun q=>hb (by simp [q])
   rw [hs2.2 b hbe]
   rcases Tk y with ⟨q1,q2⟩ | y
   ·rw [q1,q2];exact hT
   ·exact hk b o hbe hbi y
  refine ⟨.ref s.heap.objs.size,_,I2,rfl,⟨s.heap.objs.size,c,hfree,hcc,rfl,rfl⟩,⟨⟨_,he2⟩,?_,hlt⟩,fun b hb=>(hf2 b hb).1⟩
  obtain ⟨o,Z,r⟩:=hst
  exact ⟨o,by rw [hs2.2 J Y.symm];exact Z,r⟩
 done:=by
  intro X hP hw hK hc i pins s σ H E I hf st hg
  subst hP hw hK
  obtain ⟨⟨B,W⟩,hs,hi⟩:=st
  have hle:x.cps.size<=i:=hg
  have D:=UC (prog:=X.prog) (w:=X.w) (A:=X.A.in1) (I.ok.hd hc) J x t
  have ei:i=x.cps.size:=by omega
  rw [ei] at hs
  obtain ⟨f0,f1,f2,f3,f4,f5⟩:=hf J (by simp)
  exact RB D W hs fun h' eb=>⟨rfl,I.turned (t':=s.toks) (fun b o hb y=>eb b o hb y) f0 f1 f3 f4 f5⟩
 self:=fun _ _ _ _ _ st h=>by
  obtain ⟨⟨B,W⟩,_⟩:=st
  exact GZ W h
def Zof (tl:TE):TI:=fun σ H R=>tl σ H fun v H1=>∃ x,[v]=[V.str x]/\R (ZgQ x) H1
section
variable {X:Cx}
theorem ZkU {x1:Nat}(hg:Gl X "enumerate")(hm:X.mg "enumerate"=none)(hl:PE X l tl)(Y:QH [l] X.env=[(false,eval l X.env)]:=by rfl):PI X (.Tuple D x1 tp) (.Call (.Name "enumerate" p) [l] [] pos) (Zof tl):=by
 intro pins s σ H R I h
 have ha:PA X [l] (Xu tl Xr):=YJ hl Za Y
 refine Gk (WT I hg hm Op ?_)
 refine GJ (Zw (ha pos pins s σ H (fun vs H1=>∃ x,vs=[V.str x]/\R (ZgQ x) H1) I h) fun us s1 zz=>?_) Y rfl
 obtain ⟨vs,H1,B,r1,x,e,q⟩:=zz
 subst e
 obtain ⟨u,rfl,t,rfl⟩:=Yr r1
 refine call_enumerate_str fun h' Z W hsz J=>GZ Z ?_
 refine ⟨s1.heap.objs.size+1,[s1.heap.objs.size+1,s1.heap.objs.size],_,_,H1,rfl,B.kept (t':=s1.toks) J,ZhX x t _ _ (Re _),⟨⟨_,Z⟩,W,Qw _⟩,fun b hb=>?_,q⟩
 rcases mem_cons.mp hb with z | hb
 ·rw [z];exact B.fpOk (Gh _) (B.hok.fresh (Gh _))
 ·rw [mem_singleton.mp hb];exact B.fpOk (Qe _) (B.hok.fresh (Qe _))
end
theorem ZfL (hn:x.cps.size<=Qi)(z:Nat->List V->Hp->Prop)(h0:z 0 [] (upd H D (.lst [])))(hl:∀ i ys H,z i ys H->ys.length=i)(hs:∀ i c t ys H J Y,x.cps[i]?=some c->H t=none->z i ys H->g (.ref t) (σ++[J,Y]) (upd H t (.tup [.int (i:Int),.str ⟨#[c]⟩])) fun Z H'=>(∃ J Y,Z=σ++[J,Y])/\te Z H' fun y W=>W D=some (.lst ys)/\z (i+1) (ys++[y]) (upd W D (.lst (ys++[y]))))(hd:∀ ys H,z x.cps.size ys H->Q (.ref D) H):CompT (ZgQ x) g te σ D Q H:=by
 refine ⟨fun i m ys H=>m=x.cps.size - i/\i<=x.cps.size/\z i ys H,⟨x.cps.size,by simp,Qw _,h0⟩,?_⟩
 rintro i m ys H2 ⟨rfl,hi,p⟩
 have hlen:=hl i ys _ p
 by_cases B:i < x.cps.size
 ·refine .inr ⟨B,_,fun y W (q:W D=some (.lst ys)/\z (i+1) (ys++[y]) (upd W D (.lst (ys++[y]))))=>⟨q.1,by omega,x.cps.size - (i+1),by omega,rfl,B,q.2⟩,fun J Y v H3 y=>?_⟩
  obtain ⟨t,c,e1,e2,e3,e4⟩:=y
  subst e3 e4
  exact hs i c t ys _ J Y e2 e1 p
 ·have e:i=x.cps.size:=by omega
  subst e
  exact .inl ⟨Qe _,hd ys H2 p⟩
section
variable {X:Cx}{o e:Expr}{es:List Expr}{to:TE}{t:TA}{name:Str}{apos cpos:Pos}{T id:String}{r:V->List V->Hp->VK->Prop}
theorem ZoH {K:Qa}(Z:X.K=K)(pa:PlainAttrs T)(W:Slot T name id)(Y:typeOf (.builtin id)=pure (.type "method_descriptor"))(hm:MtR X id r)(ho:PE X o to)(ha:PA X (e::es) t)
 (D:JD o name X.env (eval o X.env)=eval o X.env:=by rfl)
 (J:((Jm cpos (QH (e::es) X.env)).all (fun x=>!x.1)&&(Pm cpos (GW [] X.env)).all (fun x=>x.1.isSome)
  && decide ((e::es).length+([]:List Tx).length+(if ([]:List Tx).isEmpty then 0 else 1) < 30))=true:=by rfl)
 (B:(apos.endLine == cpos.line)=true:=by rfl) (hs:QH (e::es) X.env=(false,eval e X.env)::QH es X.env:=by rfl) (z:(Jm cpos (QH es X.env)).any (·.1)=false:=by rfl) :
 PE X (.Call (.Attribute o name apos) (e::es) [] cpos) (tBM K T r to t):=by
 subst Z
 exact YL pa W Y hm ho ha D J B hs z
end
end L2
namespace L2
open PySem
def Rz (xs:Array Nat):Prop:=xs.toList.Pairwise (· < ·)
theorem Rz.get (h:Rz xs){i j:Nat}(hj:j < xs.size)(z:i < j):xs[i]'(by omega) < xs[j]:=by
 have:=(GS.mp h) i j (by rw [Qu];omega) (by rw [Qu];exact hj) z
 simpa using this
theorem ZaU {j:Nat}(h:Rz xs):∀(f lo hi:Nat),hi - lo<=f->lo<=hi->hi<=xs.size->(∀ i (hz:i < xs.size),i < lo->xs[i] < j)->(∀ i (hz:i < xs.size),hi<=i->j<=xs[i]) ->
 Py xs j f lo hi<=xs.size/\(∀ i (hz:i < xs.size),i < Py xs j f lo hi->xs[i] < j)/\∀ i (hz:i < xs.size),Py xs j f lo hi<=i->j<=xs[i]
 | 0,lo,hi,hf,hl,hs,a,b=>by
  have:lo=hi:=by omega
  subst this
  exact ⟨hs,a,b⟩
 | f + 1,lo,hi,hf,hl,hs,a,b=>by
  unfold Py
  by_cases c:lo < hi
  ·rw [if_pos c]
   have B:(lo+hi) / 2 < xs.size:=by omega
   have e:xs.getD ((lo+hi) / 2) j=xs[(lo+hi) / 2]:=by simp [Array.getD,B]
   dsimp only
   rw [e]
   by_cases d:xs[(lo+hi) / 2] < j
   ·rw [if_pos d]
    refine ZaU h f ((lo+hi) / 2+1) hi (by omega) (by omega) hs (fun i W D=>?_) b
    by_cases z:i=(lo+hi) / 2
    ·subst z;exact d
    ·exact Rx (h.get B (by omega)) d
   ·rw [if_neg d]
    refine ZaU h f lo ((lo+hi) / 2) (by omega) (by omega) (by omega) a fun i hz J=>?_
    by_cases z:i=(lo+hi) / 2
    ·subst z;omega
    ·have:=h.get hz (show (lo+hi) / 2 < i by omega);omega
  ·rw [if_neg c]
   have:lo=hi:=by omega
   subst this
   exact ⟨hs,a,b⟩
theorem WY (h:Rz xs)(j:Nat):QN xs j<=xs.size/\(∀ i (hi:i < xs.size),i < QN xs j->xs[i] < j)/\∀ i (hz:i < xs.size),QN xs j<=i->j<=xs[i] :=
 ZaU h xs.size 0 xs.size (by omega) (by omega) (Qe _) (fun i _ z=>absurd z (by omega)) (fun i hz z=>absurd hz (by omega))
theorem ZjY (h:Rz xs){m:Nat}(B:m < xs.size):QN xs xs[m]=m:=by
 obtain ⟨h1,h2,D⟩:=WY h xs[m]
 have a:QN xs xs[m]<=m:=by
  rcases Pu m (QN xs xs[m]) with z | z
  ·have:=h2 m B z;omega
  ·exact z
 rcases Pu (QN xs xs[m]) m with z | z
 ·have:=D _ (by omega) (Qe _)
  have:=h.get B z
  omega
 ·omega
theorem ZgV (h:Rz xs){m:Nat}(B:m < xs.size):QN xs (xs[m]+1)=m+1:=by
 obtain ⟨h1,h2,D⟩:=WY h (xs[m]+1)
 have a:m < QN xs (xs[m]+1):=by
  rcases Pu m (QN xs (xs[m]+1)) with z | z
  ·exact z
  ·have:=D m B z;omega
 rcases Pu (m+1) (QN xs (xs[m]+1)) with z | z
 ·have:=h2 (m+1) (by omega) z
  have:=h.get (i:=m) (j:=m+1) (by omega) (by omega)
  omega
 ·omega
theorem ZgW (h:Rz xs):QN xs 0=0:=by
 obtain ⟨h1,h2,B⟩:=WY h 0
 rcases Pu 0 (QN xs 0) with z | z
 ·have:=h2 0 (by omega) z;omega
 ·omega
theorem Zgh (j:Nat):NW #[] j=false:=by unfold NW;simp
theorem ZjC {t:Gu}(h:Rz t.place){j:Nat}(e:t.slot j=.empty):∀ i (hi:i < t.place.size),t.place[i]≠j:=by
 intro i hi z
 unfold SetTable.slot at e
 have:t.place[QN t.place j]?=some j:=by rw [<- z,ZjY h hi,QV hi]
 simp [this] at e
theorem Zlw {t:Gu}(h:t.dummies=#[])(j:Nat):t.slot j≠.dummy:=by
 unfold SetTable.slot
 rw [h,Zgh]
 simp only [Gx,if_false]
 split<;>intro z<;>cases z
theorem Zfk {x:Int}(h:t.dummies=#[]):∀(f:Nat)(p:SetTable.Probe){j:Nat}{d:Option Nat},p.dummy=none->SD t B x f p=some (.empty j d)->t.slot j=.empty/\d=none
 | 0,_,_,_,_,e=>by simp [SD] at e
 | f + 1,p,j,d,hp,e=>by
  unfold SD at e
  cases z:t.slot p.j with
  | empty =>
   rw [z] at e
   simp only [Sw,SetTable.Met.empty.injEq] at e
   obtain ⟨rfl,rfl⟩:=e
   exact ⟨z,hp⟩
  | dummy=>exact absurd z (Zlw h _)
  | live i =>
   rw [z] at e
   dsimp only at e
   split at e
   ·cases e
   ·refine Zfk h f _ ?_ e
    unfold SetTable.advance
    split
    ·exact hp
    ·exact hp
theorem Ziu {t:Gu}(h:t.dummies=#[]){x:Int}{j:Nat}{b:Bool}(e:t.freeSlot x=some (j,b)):t.slot j=.empty/\b=false:=by
 unfold SetTable.freeSlot SetTable.probe at e
 split at e
 ·rename_i B d z
  obtain ⟨h1,rfl⟩:=Zfk h _ _ (by rfl) z
  simp only [Sw,Prod.mk.injEq] at e
  obtain ⟨rfl,rfl⟩:=e
  exact ⟨h1,rfl⟩
 ·cases e
theorem Ziz (h:Rz xs){j:Nat}(hj:∀ i (hi:i < xs.size),xs[i]≠j):Rz (SetTable.insertAt xs (QN xs j) j):=by
 obtain ⟨h1,h2,z⟩:=WY h j
 unfold Rz
 rw [SetTable.toList_insertAt,List.pairwise_append]
 refine ⟨RY (Ss _ _) h,Nq.mpr ⟨fun y hy=>?_,RY (List.drop_sublist _ _) h⟩,fun x D y hy=>?_⟩
 ·obtain ⟨i,hi,rfl⟩:=mem_iff_getElem.mp hy
  rw [length_drop,Qu] at hi
  rw [NX,Jb]
  have:=z (QN xs j+i) (by omega) (by omega)
  have:=hj (QN xs j+i) (by omega)
  omega
 ·obtain ⟨i,hi,rfl⟩:=mem_iff_getElem.mp D
  rw [length_take,Qu] at hi
  rw [List.getElem_take,Jb]
  have a:=h2 i (by omega) (by omega)
  rcases mem_cons.mp hy with rfl | hy
  ·exact a
  ·obtain ⟨m,B,rfl⟩:=mem_iff_getElem.mp hy
   rw [length_drop,Qu] at B
   rw [NX,Jb]
   have:=z (QN xs j+m) (by omega) (by omega)
   omega
theorem Zlm (n:Nat):Rz (Array.range n):=by
 unfold Rz
 rw [Array.toList_range]
 exact RG
structure TOk (b:Bool)(t:Gu):Prop where
 rz:Rz t.place
 du:t.dummies=#[]
 led:b=true\/t.led=true
theorem TOk.stand (h:TOk b t)(n:Nat):TOk b (t.standIn n):=⟨Zlm n,rfl,h.led⟩
theorem TOk.or (h:TOk b t)(n:Nat):TOk b (t.orStandIn n):=by
 unfold SetTable.orStandIn
 split
 ·exact h
 ·exact h.stand n
theorem TOk.off (h:TOk b t):TOk b { t with plain:=false }:=⟨h.rz,h.du,h.led⟩
theorem TOk.put (h:TOk b t){j:Nat}(e:t.slot j=.empty):TOk b (t.put j).1:=by
 refine ⟨Ziz h.rz (ZjC h.rz e),?_,h.led⟩
 show (if NW t.dummies j then _ else t.dummies)=#[]
 rw [h.du,Zgh];rfl
theorem TOk.new (h:TOk b t)(es:Array (Int×Qb))(x:Int)(v:Qb):TOk b (layNew t es x v).2.1:=by
 unfold layNew
 split
 ·rename_i j d e
  exact (h.put (Ziu h.du e).1).or _
 ·exact h.stand _
theorem Zmu {R:Nat->Nat->Prop}{f:Nat->Option (Nat×Nat)}(D:∀ j x,f j=some x->x.1=j):∀{l:List Nat},l.Pairwise R->((l.filterMap f).map (·.1)).Pairwise R:=by
 intro l
 have z:∀ {l:List Nat} {y:Nat},y∈(l.filterMap f).map (·.1)->y∈l:=fun {l y} B=>by
  obtain ⟨x,J,rfl⟩:=mem_map.mp B
  obtain ⟨j,hj,e⟩:=OT.mp J
  rw [D j x e];exact hj
 induction l with
 | nil=>intro _;exact .nil
 | cons a r ih =>
  intro h
  obtain ⟨h1,h2⟩:=List.pairwise_cons.mp h
  rw [filterMap_cons]
  cases e:f a with
  | none=>exact ih h2
  | some x =>
   refine Nq.mpr ⟨fun y B=>?_,ih h2⟩
   show R x.1 y
   rw [show x.1=a from D a x e]
   exact h1 y (z B)
theorem TOk.relay (h:TOk b t)(es:Array (Int×Qb))(n:Nat):TOk b (Os t es n).2.1:=by
 unfold Os
 split
 ·rename_i t' o e
  dsimp only
  split
  ·unfold SetTable.relaid SetTable.laid at e
   cases z:SetTable.layClean (SetTable.sizeAbove n - 1) (es.map (·.1)) with
   | none=>rw [z] at e;cases e
   | some ow =>
    rw [z] at e
    have e:some (_,_)=some (t',o):=e
    cases e
    refine ⟨?_,rfl,h.led⟩
    show Rz (List.toArray _)
    unfold Rz
    rw [OD]
    refine Zmu (fun j x e=>?_) RG
    cases y:ow.getD j none with
    | none=>rw [y] at e;cases e
    | some m=>rw [y] at e;cases e;rfl
  ·exact h.stand _
 ·exact h.stand _
end L2
namespace L2
open PySem PySem.Spec PyProof.Rows
def XX (w:Qs):Bool:=w.params.followText "set-order"
def Wc:Qb->Zj
 | .int i _=>.inl i
 | .str x _=>.inr x
 | _=>.inl 0
theorem Vv {k:Zj}(h:YZ k v=true):Wc v=k:=by
 rcases Yd h with ⟨i,t,rfl,rfl⟩ | ⟨x,t,rfl,rfl⟩<;>rfl
theorem Znp (h:YZ k v=true):v.scannable=true:=by
 rcases Yd h with ⟨i,t,rfl,rfl⟩ | ⟨x,t,rfl,rfl⟩<;>rfl
def UG (xs:Array (Int×Qb)):List Zj:=xs.toList.map fun e=>Wc e.2
def SetG (P:Ql)(w:Qs)(h:Heap)(a:Addr)(ks:List Zj):Prop :=
 ∃ o xs ep t,h.get? a=some o/\o.ExactSet/\o.data=.set xs ep t/\ElemsOf (ZB P w) xs.toList/\(UG xs).Perm ks/\ks.Nodup/\xs.size < Ri/\t.fits xs.size=true/\TOk (XX w) t
def Xk (ks:List Zj)(k:Zj):List Zj:=if (ks.any fun j=>decide (j=k))=true then ks else ks++[k]
theorem any_mem {ks:List Zj}{k:Zj}:(ks.any fun j=>decide (j=k))=true↔k∈ks:=by
 rw [Mt]
 exact ⟨fun ⟨x,z,e⟩=>of_decide_eq_true e ▸ z,fun h=>⟨k,h,decide_eq_true rfl⟩⟩
theorem Vl (h:ks.Nodup):(Xk ks k).Nodup:=by
 unfold Xk
 split
 ·exact h
 ·rename_i z
  rw [nodup_append]
  exact ⟨h,by simp,fun a B b D e=>z (any_mem.mpr <| by rw [<- mem_singleton.mp D,<- e];exact B)⟩
theorem ZjW :x∈Xk ks k↔x∈ks\/x=k:=by
 unfold Xk
 split
 ·rename_i z;exact ⟨.inl,fun h=>h.elim id fun e=>e ▸ any_mem.mp z⟩
 ·rw [mem_append,mem_singleton]
theorem ZjV (ks:List Zj)(k:Zj):(Xk ks k).length<=ks.length+1:=by
 unfold Xk
 split
 ·omega
 ·rw [length_append];exact Qe _
section
variable {prog:Ql}{w:Qs}{A:QL}{E:Qb->Qf->Prop}{s:Qf}
theorem ZiE {k:Zj}(h:ElemsOf (ZB prog w) xs.toList):k∈UG xs↔∃ e∈xs.toList,YZ k e.2=true:=by
 unfold UG
 rw [mem_map]
 constructor
 ·rintro ⟨e,z,rfl⟩
  obtain ⟨⟨j,hj,_⟩,_⟩:=h e z
  refine ⟨e,z,?_⟩
  rw [Vv (k:=j) hj];exact hj
 ·rintro ⟨e,z,B⟩
  exact ⟨e,z,Vv B⟩
theorem Zgz {h:Heap}{a:Addr}{o:Obj}{xs ys:Array (Int×Qb)}{ep:Nat}{t u:Gu}(B:h.get? a=some o)(z:o.data=.set xs ep t) :
 (h.update a (Obj.putSet ys u)).get? a=some { o with data:=.set ys (ep+1) u }:=by
 have e:=putSet_of (o:=o) ys u z
 have g:=GQ (Obj.putSet ys u) B (by rw [e];rfl)
 rwa [e] at g
theorem Zfq {g:Bool->Sem Unit}(hg:∀(b:Bool)(B:Qf)(R:Unit->Qf->Prop),R () B->Qp (Qt prog w) A (g b) R E B)
   {a:Addr} {o:Obj} {xs ys:Array (Int×Qb)} {ep:Nat} {t u:Gu} {ks:List Zj} (W:s.heap.get? a=some o) (Y:o.ExactSet) (Z:o.data=.set xs ep t)
   (h1:ElemsOf (ZB prog w) ys.toList) (h2:(UG ys).Perm ks) (h3:ks.Nodup) (D:ys.size < Ri) (h5:u.fits ys.size=true) (h6:TOk (XX w) u) {d:Bool} {R:Option Bool->Qf->Prop}
   (q:∀ h',Pg a s.heap h'->SetG prog w h' a ks->R (some true) { s with heap:=h' }) :
   Qp (Qt prog w) A (do
       storeSet a ys u
       if (!d&&u.tooFull)=true then do
           g (Os u ys (Js ys.size)).2.2
           storeSet a (Os u ys (Js ys.size)).1 (Os u ys (Js ys.size)).2.1
           pure (some true)
         else pure (some true)) R E s:=by
 refine Qd (NY W Z ?_ (Pz D))
 have J:=Zgz (ys:=ys) (u:=u) W Z
 have s1:=QI s.heap a (Obj.putSet ys u)
 split
 · have p:=relayAll_perm u ys (Js ys.size)
   have f:=relayAll_fits u ys (Js ys.size)
   have k:=h6.relay ys (Js ys.size)
   generalize Os u ys (Js ys.size)=L at p f k ⊢
   obtain ⟨zs,v,gv⟩:=L
   dsimp only at p f k ⊢
   have z:zs.size=ys.size:=by rw [<- Qu,p.length_eq,Qu]
   refine Qd (hg _ _ _ ?_)
   refine Qd (NY J rfl ?_ (Pz (by rw [z];exact D)))
   have o2:=Zgz (ys:=zs) (u:=v) J rfl
   exact Qh (q _ (s1.trans (QI _ a _)) ⟨_,zs,_,v,o2,Y,rfl,h1.perm p,(p.map _).trans h2,h3,by rw [z];exact D,f,k⟩)
 · exact Qh (q _ s1 ⟨_,ys,_,u,J,Y,rfl,h1,h2,h3,D,h5,h6⟩)
theorem Znq (Z:YZ k x=true)(hS:SetG prog w s.heap a ks)(hr:ks.length+1 < Ri)(q:∀ b h',Pg a s.heap h'->SetG prog w h' a (Xk ks k)->Q b { s with heap:=h' }):Qp (Qt prog w) A (setAddHashed a x ((ZB prog w).hash k)) Q E s:=by
 obtain ⟨o,xs,ep,t,Y,hx,J,h1,h2,h3,h4,h5,h6⟩:=hS
 have D:=Znp Z
 have hl:xs.size=ks.length:=by rw [<- h2.length_eq];unfold UG;rw [length_map,Qu]
 unfold setAddHashed setAddHashedIn
 refine QX (Qd (JH Y J h5 ?_))
 dsimp only
 rw [byScan_of D h4 h1,if_pos rfl]
 unfold setAddByScan
 refine Qd (Qd (PR (Qd (wpAny_setScan_of (knd:=ZB prog w) (k:=k) Z Y J h5 h1 ?_))))
 have gw:∀ (b:Bool) (B:Qf) (R:Unit->Qf->Prop),R () B->Qp (Qt prog w) A (match b with | true=>rule "set.scan.the-table-gave-way" | false=>pure ()) R E B:=fun b B R z=>by
  cases b
  ·exact Qh z
  ·exact PR z
 have W:=ZiE (k:=k) h1
 cases hf:xs.toList.findIdx? (fun e=>(ZB prog w).is k e.2) with
 | some j =>
  obtain ⟨hj,hp,_⟩:=List.findIdx?_eq_some_iff_getElem.mp hf
  have hm:k∈ks:=h2.mem_iff.mp (W.mpr ⟨xs.toList[j],QS hj,hp⟩)
  refine Qh (Qh (q _ s.heap (Heap.SameBut.refl a s.heap) ?_))
  unfold Xk
  rw [if_pos (any_mem.mpr hm)]
  exact ⟨o,xs,ep,t,Y,hx,J,h1,h2,h3,h4,h5,h6⟩
 | none =>
  have hm:k ∉ ks:=fun z=>by
   obtain ⟨e,he,hp⟩:=W.mp (h2.mem_iff.mpr z)
   have y:=List.findIdx?_eq_none_iff.mp hf e he
   rw [show (ZB prog w).is k e.2=true from hp] at y
   cases y
  dsimp only
  have p:=layNew_perm t xs ((ZB prog w).hash k) x
  have f:=layNew_fits t xs ((ZB prog w).hash k) x
  have tk:=h6.new xs ((ZB prog w).hash k) x
  generalize layNew t xs ((ZB prog w).hash k) x=L at p f tk ⊢
  obtain ⟨ys,u,wd,gv⟩:=L
  dsimp only at p f tk ⊢
  rw [SE] at p
  have e1:ElemsOf (ZB prog w) ys.toList:=(h1.push (k:=k) Z D).perm p
  have e2:(UG ys).Perm (Xk ks k):=by
   unfold Xk
   rw [if_neg fun z=>hm (any_mem.mp z)]
   have:=p.map fun e=>Wc e.2
   rw [map_append] at this
   refine this.trans ?_
   show ((xs.toList.map fun e=>Wc e.2)++[Wc x]).Perm _
   rw [Vv Z]
   exact h2.append_right _
  have e4:ys.size < scanBound:=by
   rw [<- Qu,p.length_eq,length_append,Qu,hl];exact hr
  refine Qd (gw _ _ _ ?_)
  split
  ·refine Qd ?_
   rw [hashByValue_scannable 8 D]
   refine Qh ?_
   refine Zfq gw Y hx J e1 e2 (Vl h3) e4 ?_ ?_ fun h' sb G=>Qh (q _ h' sb G)
   ·split
    ·exact f
    ·exact SetTable.fits_plain_off f
   ·split
    ·exact tk
    ·exact tk.off
  ·refine Qd (Qh ?_)
   exact Zfq gw Y hx J e1 e2 (Vl h3) e4 (by simpa using f) (by simpa using tk) fun h' sb G=>Qh (q _ h' sb G)
end
theorem SetG.keep (G:SetG P w h a ks)(k:∀ o,h.get? a=some o->h'.get? a=some o):SetG P w h' a ks:=by
 obtain ⟨o,xs,ep,t,z,r⟩:=G
 exact ⟨o,xs,ep,t,k o z,r⟩
def Xh (ks:List Zj):List Zj:=ks.foldl Xk []
theorem ZeN:∀(l ks:List Zj),(l.foldl Xk ks).length<=ks.length+l.length
 | [],_=>Qe _
 | k::l,ks=>by
  have h1:=ZeN l (Xk ks k)
  have h2:=ZjV ks k
  show (l.foldl Xk (Xk ks k)).length<=ks.length+(l.length+1)
  omega
theorem ZeO :∀(l ks:List Zj),x∈l.foldl Xk ks↔x∈ks\/x∈l
 | [],ks=>by simp
 | k::l,ks=>by
  show x∈l.foldl Xk (Xk ks k)↔_
  rw [ZeO l,ZjW,mem_cons,or_assoc]
theorem ZbU:∀(l ks:List Zj),ks.Nodup->(l.foldl Xk ks).Nodup
 | [],_,h=>h
 | k::l,ks,h=>ZbU l (Xk ks k) (Vl h)
theorem ZdC (l:List Zj):(Xh l).length<=l.length:=by
 have:=ZeN l []
 have e:([]:List Zj).length=0:=rfl
 unfold Xh
 omega
theorem onceK_mem :x∈Xh l↔x∈l:=by unfold Xh;rw [ZeO];simp
theorem ZfR (l:List Zj):(Xh l).Nodup:=ZbU l [] .nil
theorem Zhm (l:List Zj)(k:Zj):Xh (l++[k])=Xk (Xh l) k:=by unfold Xh;rw [Px];rfl
section
variable {prog:Ql}{w:Qs}{A:QL}{R:OU->Qf->Prop}{I:Addr}{fp wr:List Addr}{G:Array SW->Array SW->Prop}{n:Nat}{P:Nat->Qb->Prop}{St:Nat->Qf->Prop}
theorem Zlt (W:WalksS prog w A.in1 I fp wr G n P St)(S:Addr)(hS:S ∉ fp)(vs:List Zj)(hn:vs.length=n)(hv:∀ i k v,vs[i]?=some k->P i v->YZ k v=true)(hb:n+1 < Ri) :
 ∀ (m i:Nat) (s:Qf),n - i=m->i<=n->St i s->SetG prog w s.heap S (Xh (vs.take i)) ->
  (∀ s',Moved (S::wr) G s s'->SetG prog w s'.heap S (Xh vs)->R (.ok (.ret .none)) s')->JN (Qt prog w) A (.builtin "set.update.loop" ⟨[.ref S,.ref I],[]⟩) R s:=by
 have hw:S ∉ wr:=fun z=>hS (W.sub _ z)
 have up:∀ b∈wr,b∈S::wr:=fun b z=>mem_cons_of_mem _ z
 intro m
 induction m with
 | zero =>
  intro i s hk hi st Z q
  have e:i=n:=by omega
  subst e
  rw [take_of_length_le (by omega)] at Z
  refine Gr Rj ?_
  rw [Gm Pe _]
  refine Qd (m:=SH (.ref I)) (W.done s _ _ st fun s' J=>?_)
  exact Qh (q s' (J.mono up) (Z.keep fun o e=>J.heap S o hw e))
 | succ m ih =>
  intro i s hk hi st Z q
  have B:i < n:=by omega
  have D:=getElem?_eq_getElem (show i < vs.length by omega)
  refine Gr Rj ?_
  rw [Gm Pe _]
  refine Qd (m:=SH (.ref I)) (W.item i s _ _ B st fun v s' hP st' J=>?_)
  have Y:=hv i _ v D hP
  have hG':=Z.keep fun o e=>J.heap S o hw e
  show Qp _ A.in1 (Ph [v] (setAdd S v) >>= _) _ _ s'
  refine Qd (QX ?_)
  unfold setAdd
  refine QX (Qd ((ZB prog w).pyHash (k:=vs[i]) Y ?_))
  have hl:(Xh (vs.take i)).length+1 < scanBound:=by
   have:=ZdC (vs.take i)
   rw [length_take] at this
   omega
  refine Znq (s:={ s' with toks:=s'.toks+1 }) Y hG' hl fun b h' sb G2=>?_
  have G3:SetG prog w h' S (Xh (vs.take (i+1))):=by rw [take_succ,D,TZ,Zhm];exact G2
  refine Qh ⟨JF Pe _,ih (i+1) _ (by omega) B (W.frame _ s' _ _ st' (Gh _) fun b hb o e=>?_) G3 fun s'' m2 G4=>?_⟩
  ·exact (sb.2 b fun z=>hS (z ▸ hb)).trans e
  ·refine q s'' (Moved.trans W.gtrans ((J.mono up).then_heap (Gh _) fun b o hb e=>?_) m2) G4
   exact (sb.2 b fun z=>hb (z ▸ mem_cons_self)).trans e
end
section
variable {prog:Ql}{w:Qs}{A:QL}{E:Qb->Qf->Prop}{s:Qf}
theorem newG {h:Heap}:SetG prog w (h.push { cls:=.type "set",dict:=none,data:=.set #[] 0 (.fresh 0 0 (!XX w)) }) h.objs.size [] :=
 ⟨_,#[],0,_,Qk _ rfl,⟨rfl,rfl,rfl⟩,rfl,fun e z=>by simp at z,.refl _,.nil,by decide,rfl,⟨.nil,rfl,by cases XX w<;>simp [SetTable.fresh]⟩⟩
theorem Zns (a:Qb)(h:Q (.ref s.heap.objs.size) { s with heap:=s.heap.push { cls:=.type "set",dict:=none,data:=.set #[] 0 (.fresh 0 0 (!XX w)) } }):
 JN (Qt prog w) A (.call (.builtin "set.__new__") ⟨[.type "set",a],[]⟩) (wants Q E) s:=by
 refine RL (Qd (m:=Rc "set.__new__" ⟨[.type "set",a],[]⟩) (Tj (PySem.F.newCall_set_1 a) (Qh ⟨JF MR _,Gr F.entry_set_new ?_⟩)))
 rw [Gm MR _]
 have hz:=sub_set_self
 obtain ⟨hp,g,d,tk,os⟩:=s
 unfold GR.«set.__new__» Builtin.Frozenset.newClass
 dsimp only
 wp_walk
 refine JQ (Qh ?_)
 dsimp only
 simp only [newObj]
 exact Qd (wpAny_alloc (Qh (Qh h)))
end
theorem ZbN:Oo table "set.__iter__"=some GR.«frozenset.__iter__»:=entryFor_alias (id':="frozenset.__iter__") (by kernel_rfl) rfl (by decide +kernel) (by kernel_rfl)
theorem slot_seti_next:Slot "set_iterator" "__next__" "set_iterator.__next__" :=
 .of (owner:="set_iterator") (n:="__next__") (by rw [MS,RZ];kernel_rfl) (by decide +kernel) (by decide +kernel) (by decide +kernel) (by decide +kernel) (by rw [Ot];kernel_rfl)
theorem Vc:Slot "set_iterator" "__iter__" "set_iterator.__iter__" :=
 .of (owner:="set_iterator") (n:="__iter__") (by rw [MS,RZ];kernel_rfl) (by decide +kernel) (by decide +kernel) (by decide +kernel) (by decide +kernel) (by rw [Ot];kernel_rfl)
theorem UD:Oo table "set_iterator.__next__"=some GR.«set_iterator.__next__»:=Mm (by kernel_rfl)
theorem UU (a:Qb):Nb "set_iterator.__next__" ⟨[a],[]⟩:=by unfold Nb;kernel_rfl
theorem ZcB (a:Qb):Nb "set_iterator.__iter__" ⟨[a],[]⟩:=by unfold Nb;kernel_rfl
theorem ZbQ {z:Type}{l:List z}{i:Nat}(h:i < l.length):(l[i]::l.eraseIdx i).Perm l:=by
 rw [List.eraseIdx_eq_take_drop_succ]
 refine List.perm_middle.symm.trans ?_
 rw [<- List.drop_eq_getElem_cons h,RX]
section
variable {M:Model}{A:QL}{E:Qb->Qf->Prop}
theorem ZjQ {n:Nat}(B:n≠0)(h:∀ i d,i < n->Q i { s with drawn:=d }):Qp M A (choose z n) Q E s :=
 fun _ _ _=>⟨B,h _ _ (No _ (Nat.pos_of_ne_zero B))⟩
theorem ZlJ {B:Type}(n:Nat):∀(xs:List B){s:Qf}{Q:List B->Qf->Prop},xs.length=n->(∀ ys d,ys.Perm xs->Q ys { s with drawn:=d })->Qp M A (drawOrder n xs) Q E s:=by
 induction n with
 | zero =>
  intro xs s Q z h
  cases xs with
  | nil=>exact Qh (h [] s.drawn (.refl _))
  | cons x r=>cases z
 | succ n ih =>
  intro xs s Q z h
  cases xs with
  | nil=>cases z
  | cons x xs =>
   unfold drawOrder
   refine Qd (ZjQ (by simp) fun i d hi=>?_)
   rw [getElem?_eq_getElem hi]
   refine Qd (ih ((x::xs).eraseIdx i) (by rw [Sc hi];rw [length_cons] at z ⊢;omega) fun ys d' p=>Qh (h _ d' ?_))
   exact (p.cons _).trans (ZbQ hi)
end
theorem Zgt {z:Type}(f:Nat->Nat):∀(m k:Nat)(xs:List z)(out:Array z),xs.length<=m->(NZ f m k xs out).toList.Perm (out.toList++xs)
 | 0,k,xs,out,h=>by
  have:xs=[]:=eq_nil_of_length_eq_zero (by omega)
  subst this
  unfold NZ
  rw [MG]
 | m + 1,k,xs,out,h=>by
  unfold NZ
  cases xs with
  | nil=>simp
  | cons x r =>
   have hi:f k % (x::r).length < (x::r).length:=No _ (by simp)
   rw [getElem?_eq_getElem hi]
   have:=Zgt f m (k+1) ((x::r).eraseIdx (f k % (x::r).length)) (out.push (x::r)[f k % (x::r).length]) (by rw [Sc hi];omega)
   refine this.trans ?_
   rw [SE,append_assoc]
   exact (ZbQ hi).append_left _
theorem Zjh {z:Type}(f:Nat->Nat)(xs:Array z):(Ox f xs).toList.Perm xs.toList:=by
 have:=Zgt f xs.size 0 xs.toList #[] (by simp)
 unfold Ox
 simpa using this
def SetRw (h:Heap)(a:Addr)(xs:Array (Int×Qb))(ep:Nat)(t:Gu):Prop:=∃ o,h.get? a=some o/\o.ExactSet/\o.data=.set xs ep t
section
variable {prog:Ql}{w:Qs}{A:QL}{E:Qb->Qf->Prop}{s:Qf}{I a:Addr}{first:Qb}{i n ep:Nat}{xs:Array (Int×Qb)}{t:Gu}
theorem ZfT (hR:SetRw s.heap a xs ep t)(W:t.fits xs.size=true)(hb:xs.size < Ri)(q1:(XX w=true\/(!t.plain&&decide (xs.size > 1))=false)->Q (.ref s.heap.objs.size) { s with heap:=s.heap.push { cls:=.type "set_iterator",data:=.fields #[Gb 0,Gb 0,.ref a,Gb xs.size,Gb ep] } })(q2:∀ (ys:List Nat) (d:Nv),XX w=false->ys.Perm (Gn xs.size)->Q (.ref (s.heap.objs.size+1)) { s with heap:=(s.heap.push { cls:=.type "tuple",data:=.seq (ys.map fun (i:Nat)=>Gb i).toArray }).push { cls:=.type "set_iterator",data:=.fields #[.ref s.heap.objs.size,Gb 0,.ref a,Gb xs.size,Gb ep] },drawn:=d }):
 Qp (Qt prog w) A (Mf (.ref a)) Q E s:=by
 obtain ⟨o,D,hx,J⟩:=hR
 have Z:s.TypeIs (.ref a) "set":=⟨o,D,hx.1⟩
 refine Ma Z Oa (Jr Oa Z ZbN ?_ (PySem.F.args_set_iter_1 _))
 unfold GR.«frozenset.__iter__»
 refine Qd (m:=Builtin.Frozenset.slot0 "__iter__" ⟨[.ref a],[]⟩) (Tj (a:=a) (by rfl) ?_)
 refine Qd (m:=Builtin.Frozenset.sizeOf a) (Qd (Tv D J W (Qh ?_)))
 refine Qd (m:=setDrawn a) (Qd (JH D J W (Qd (m:=setsByText) (Qd (JQ (Qh (Qh ?_)))))))
 refine JA (fun Y=>?_) (fun Y=>?_)
 ·have B:(!XX w&&(!t.plain&&decide (xs.size > 1)))=true:=Y
  rw [QO] at B
  refine Qd (ZlJ xs.size (Gn xs.size) length_range fun ys d p=>?_)
  have hl:ys.length=xs.size:=by rw [p.length_eq,length_range]
  refine Qd (m:=newTuple _) (Gg ?_ ?_)
  ·refine Qd (m:=setEpoch a) (Mb (Qc _ D) J W ?_)
   refine Qd (m:=newFields _ _) (Gg (Qh ⟨_,rfl,"set_iterator",_,⟨_,Qk _ rfl,rfl⟩,slot_seti_next.lookup,?_⟩))
   have:=q2 ys d (by simpa using B.1) p
   rw [Gc]
   exact this
  ·show (List.toArray _).size<=Qi
   rw [size_toArray,length_map,hl]
   exact Pz hb
 ·refine Qd (Qh ?_)
  refine Qd (m:=setEpoch a) (Mb D J W ?_)
  refine Qd (m:=newFields _ _) (Gg (Qh ⟨_,rfl,"set_iterator",_,⟨_,Qk _ rfl,rfl⟩,slot_seti_next.lookup,?_⟩))
  refine q1 ?_
  have B:¬ (!XX w&&(!t.plain&&decide (xs.size > 1)))=true:=Y
  cases z:XX w with
  | true=>exact .inl rfl
  | false=>rw [z] at B;exact .inr (by simpa using B)
end
section
variable {prog:Ql}{w:Qs}{A:QL}{E:Qb->Qf->Prop}{s:Qf}{I a:Addr}{first:Qb}{i n ep:Nat}{xs:Array (Int×Qb)}{t:Gu}
def Ut (w:Qs)(a:Addr)(ep:Nat)(xs:Array (Int×Qb)):List Value:=if XX w=true then (Ox (w.params.setOrder a ep) xs).toList.map (·.2) else xs.toList.map (·.2)
theorem ordE_perm:(Ut w a ep xs).Perm (xs.toList.map (·.2)):=by
 unfold Ut
 split
 ·exact (Zjh _ _).map _
 ·exact .refl _
theorem Zbj:(Ut w a ep xs).length=xs.size:=by rw [ordE_perm.length_eq,length_map,Qu]
def VS (w:Qs)(t:Gu)(i slot:Nat):Prop:=XX w=true\/QN t.place slot=i
theorem Zic {B:Nat}(hR:SetRw s.heap a xs ep t)(Z:t.fits xs.size=true)(ht:TOk (XX w) t)(hnd:XX w=true\/(!t.plain&&decide (xs.size > 1))=false)(hs:VS w t i B)(q1:∀ v D,(Ut w a ep xs)[i]?=some v->VS w t (i+1) D->Q (some (v,D)) s)(J:(Ut w a ep xs)[i]?=none->Q none s):Qp (Qt prog w) A (setNext a B i ep) Q E s:=by
 obtain ⟨o,ho,hx,hd⟩:=hR
 unfold setNext
 refine Qd (JH ho hd Z ?_)
 refine Qd (m:=setsByText) (Qd (JQ (Qh ?_)))
 dsimp only
 refine JA (fun hc=>?_) (fun hc=>?_)
 ·have z:XX w=true:=hc
  rw [if_neg (by simp)]
  refine Qd (m:=setWalk a) ?_
  unfold setWalk
  refine Qd (JH ho hd Z ?_)
  refine Qd (m:=setsByText) (Qd (JQ (Qh ?_)))
  dsimp only
  rw [if_pos hc]
  refine Qd (JQ (Qh (Qh ?_)))
  unfold Ut at q1 J
  rw [if_pos z,getElem?_map,QP] at J
  show Q (Option.map (fun e=>(e.2,B)) (Ox (w.params.setOrder a ep) xs)[i]?) s
  cases e:(Ox (w.params.setOrder a ep) xs)[i]? with
  | none=>exact J (by rw [e];rfl)
  | some x =>
   refine q1 x.2 B ?_ (.inl z)
   rw [if_pos z,getElem?_map,QP,e];rfl
 ·have z:XX w=false:=by
   have:¬ XX w=true:=hc
   simpa using this
  refine JA (fun hz=>?_) (fun hz=>?_)
  ·have hz':(!t.plain&&decide (xs.size > 1))=true:=hz
   rcases hnd with y | y
   ·rw [z] at y;cases y
   ·rw [y] at hz';cases hz'
  ·have Y:t.led=true:=by
    rcases ht.led with y | y
    ·rw [z] at y;cases y
    ·exact y
   have hpl:t.place.size=xs.size:=by
    unfold SetTable.fits at Z
    rw [QO,beq_iff_eq] at Z
    exact Z.1
   have hbe:QN t.place B=i:=by
    rcases hs with y | y
    ·rw [z] at y;cases y
    ·exact y
   refine Qd (show Qp (Qt prog w) A (if (!t.led&&!xs.isEmpty)=true then unsupported "set:maker-not-led" else pure ()) _ E s from ?_)
   rw [Y,if_neg (by simp)]
   refine Qh (Qh ?_)
   unfold Ut at q1 J
   rw [if_neg (by rw [z];simp),getElem?_map,QP] at J
   rw [hbe]
   by_cases hi:i < xs.size
   ·have W:i < t.place.size:=by omega
    rw [QV hi,QV W]
    refine q1 _ _ ?_ (.inr (ZgV ht.rz W))
    rw [if_neg (by rw [z];simp),getElem?_map,QP,QV hi];rfl
   ·rw [PB (by omega)]
    exact J (by rw [PB (by omega)];rfl)
theorem VG {x:Qb}{j:Nat}(z:s.heap.get? I=some { cls:=.type "set_iterator",data:=.fields vs }):(s.heap.update I (Ta (·.setIfInBounds j x))).get? I=some { cls:=.type "set_iterator",data:=.fields (vs.setIfInBounds j x) } :=
 GQ (Ta (·.setIfInBounds j x)) z rfl
abbrev itO (f:Qb)(i:Nat)(a:Addr)(n ep:Nat):Obj:={ cls:=.type "set_iterator",data:=.fields #[f,Gb i,.ref a,Gb n,Gb ep] }
theorem Zfz {g:Qf}{Q:Option Qb->Qf->Prop}(B:A.handled=none)(q:∀ h',(∀ b o,g.heap.get? b=some o->h'.get? b=some o)->Q none { g with heap:=h' })
 {R:PySem.Fin->Qf->Prop} {z:Qb->Qf->Prop} (D:∀ e s',Qp (Qt prog w) A (do if (<- isInstance e (GO "StopIteration"))=true then pure none else throw e) Q E s'->z e s'):Qp (Qt prog w) A.in1 (do let e <- newExc (GO "StopIteration") [];raiseNew e) R z g:=by
 refine Qd ?_
 simp only [newExc,newTuple]
 refine Qd (Gg ?_ (by size_fits))
 refine Qd (m:=firstArgMember _ _) (Tj (a:=Jc) (by first | rfl | (simp only [firstArgMember];rfl)) ?_)
 refine Gg ?_ (by size_fits)
 simp only [raiseNew]
 refine Qd (wpAny_handled ?_)
 rw [show A.in1.handled=none from B]
 refine Qd (Qh (wpAny_throw (D _ _ ?_)))
 refine Qd (Mw (T:="StopIteration") (b:=true) ⟨_,Qk _ rfl,rfl⟩ isSubtype_stop (Qh (q _ fun b o e=>?_)))
 exact Qc _ (Qc _ e)
theorem Zdz {D:Nat}(J:s.heap.get? I=some (itO (Gb D) i a xs.size ep))(hR:SetRw s.heap a xs ep t)(hf:t.fits xs.size=true)(ht:TOk (XX w) t)(W:XX w=true\/(!t.plain&&decide (xs.size > 1))=false)(hs:VS w t i D)(hh:A.handled=none)(q1:∀ v B h',(Ut w a ep xs)[i]?=some v->VS w t (i+1) B->h'.get? I=some (itO (Gb B) (i+1) a xs.size ep)->Ou I s.heap h'->Q (some v) { s with heap:=h' })(q2:∀ h',(Ut w a ep xs)[i]?=none->Ou I s.heap h'->Q none { s with heap:=h' }):Qp (Qt prog w) A (SH (.ref I)) Q E s:=by
 have hT:s.TypeIs (.ref I) "set_iterator":=⟨_,J,rfl⟩
 obtain ⟨o,ho,hx,hd⟩:=id hR
 unfold SH
 refine Qd (OM (Rk (name:=Qq "__next__") hT slot_seti_next (Jr slot_seti_next hT UD ?_ (UU _))))
 unfold GR.«set_iterator.__next__»
 refine Qd (Qh (Qd (wpAny_fieldsOf J rfl ?_)))
 show Qp (Qt prog w) A.in1 (setEntries a >>= _) _ _ s
 refine Qd (Tv ho hd hf ?_)
 dsimp only
 rw [if_neg (by simp)]
 show Qp (Qt prog w) A.in1 (setNext a (D:Int).toNat (i:Int).toNat (ep:Int).toNat >>= _) _ _ s
 rw [Gp,Gp,Gp]
 refine Qd (Zic hR hf ht W hs (fun v B Z Y=>?_) (fun Z=>?_))
 ·dsimp only
  refine Qd (JM J rfl (by simp) ?_)
  have h1:=VG (x:=Gb B) (j:=0) J
  refine Qd (JM (s:={ s with heap:=_ }) h1 rfl (by simp) ?_)
  have h2:=VG (s:={ s with heap:=_ }) (x:=Gb ((i:Int)+1)) (j:=1) h1
  exact Qh ⟨_,rfl,Qh (q1 v B _ Z Y h2 (((QI ..).extBut).trans (QI ..).extBut))⟩
 ·dsimp only
  refine Qd (JM J rfl (by simp) ?_)
  exact Zfz (g:={ s with heap:=s.heap.update I (Ta (·.setIfInBounds 2 Jc)) }) hh (fun h' k=>q2 h' Z fun b o nb e=>k b o ((QI s.heap I _).extBut b o nb e)) fun e s' z=>z
theorem Zcd {T:Addr}{ys:List Nat}{e0:Nat}{Q:Option Qb->Qf->Prop}(B:s.heap.get? I=some (itO (.ref T) i a xs.size ep))(hT:s.heap.get? T=some { cls:=.type "tuple",data:=.seq (ys.map fun (i:Nat)=>Gb i).toArray e0 })(hR:SetRw s.heap a xs ep t)(Z:t.fits xs.size=true)(hy:∀ y∈ys,y < xs.size)(hh:A.handled=none)
 (q1:∀ (y:Nat) (v:Int×Qb) h',ys[i]?=some y->xs[y]?=some v->h'.get? I=some (itO (.ref T) (i+1) a xs.size ep)->Ou I s.heap h'->Q (some v.2) { s with heap:=h' })
 (q2:∀ h',ys[i]?=none->Ou I s.heap h'->Q none { s with heap:=h' }):Qp (Qt prog w) A (SH (.ref I)) Q E s:=by
 have J:s.TypeIs (.ref I) "set_iterator":=⟨_,B,rfl⟩
 obtain ⟨o,W,hx,Y⟩:=id hR
 unfold SH
 refine Qd (OM (Rk (name:=Qq "__next__") J slot_seti_next (Jr slot_seti_next J UD ?_ (UU _))))
 unfold GR.«set_iterator.__next__»
 refine Qd (Qh (Qd (wpAny_fieldsOf B rfl ?_)))
 show Qp (Qt prog w) A.in1 (setEntries a >>= _) _ _ s
 refine Qd (Tv W Y Z ?_)
 dsimp only
 rw [if_neg (by simp)]
 show Qp (Qt prog w) A.in1 (seqItems? (.ref T) >>= _) _ _ s
 refine Qd (Qd (wpAny_load hT (Qh ?_)))
 dsimp only
 rw [Gp,Ob,getElem?_map]
 cases e:ys[i]? with
 | none =>
  dsimp only [Option.map_none]
  refine Qd (JM B rfl (by simp) ?_)
  have h1:=VG (x:=Gb 0) (j:=0) B
  refine Qd (JM (s:={ s with heap:=_ }) h1 rfl (by simp) ?_)
  refine Zfz (g:={ s with heap:=(s.heap.update I (Ta (·.setIfInBounds 0 (Gb 0)))).update I (Ta (·.setIfInBounds 2 Jc)) }) hh (fun h' k=>q2 h' e fun b o nb z=>k b o ?_) fun e s' z=>z
  exact (((QI ..).extBut).trans (QI ..).extBut) b o nb z
 | some y =>
  have D:=hy y (mem_of_getElem? e)
  show Qp (Qt prog w) A.in1 (setNextDrawn a (y:Int).toNat (ep:Int).toNat >>= _) _ _ s
  rw [Gp,Gp]
  refine Qd ?_
  unfold setNextDrawn
  refine Qd (JH W Y Z ?_)
  dsimp only
  rw [if_neg (by simp),QV D]
  refine Qh ?_
  refine Qd (JM B rfl (by simp) ?_)
  have h1:=VG (x:=Gb ((i:Int)+1)) (j:=1) B
  exact Qh ⟨_,rfl,Qh (q1 y _ _ e (QV D) h1 (QI ..).extBut)⟩
end
end L2
namespace L2
open PySem PySem.W PySem.Spec PyProof.Rows
theorem ZbO:Oo table "set_iterator.__iter__"=some GR.«dict_keyiterator.__iter__»:=entryFor_alias (id':="dict_keyiterator.__iter__") (by kernel_rfl) rfl (by decide +kernel) (by kernel_rfl)
theorem SetRw.keep {ep:Nat}(r:SetRw h a xs ep t)(k:∀ o,h.get? a=some o->h'.get? a=some o):SetRw h' a xs ep t:=let ⟨o,ho,q⟩:=r;⟨o,k o ho,q⟩
section
variable {prog:Ql}{w:Qs}{A:QL}{E:Qb->Qf->Prop}{s:Qf}{I a T:Addr}{ep e0:Nat}{xs:Array (Int×Qb)}{t:Gu}
theorem Zdu {i n:Nat}(B:s.heap.get? I=some (itO f i a n ep))(q:Q (.ref I) s):Qp (Qt prog w) A (Mf (.ref I)) Q E s:=by
 have z:s.TypeIs (.ref I) "set_iterator":=⟨_,B,rfl⟩
 refine Ma z Vc (Jr Vc z ZbO ?_ (ZcB _))
 exact Qh ⟨_,rfl,"set_iterator",_,z,slot_seti_next.lookup,q⟩
theorem ZjP (hne:a≠I)(hf:t.fits xs.size=true)(ht:TOk (XX w) t)(hnd:XX w=true\/(!t.plain&&decide (xs.size > 1))=false)(hh:A.handled=none) :
 Walks prog w A I [I,a] [I] xs.size (fun i v=>(Ut w a ep xs)[i]?=some v) (fun i h=>(∃ B:Nat,h.get? I=some (itO (Gb B) i a xs.size ep)/\VS w t i B)/\SetRw h a xs ep t) where
 sub:=fun b Y=>by simp at Y;simp [Y]
 frame:=fun i h h' ⟨⟨B,h1,h2⟩,W⟩ hk=>⟨⟨B,hk I (by simp) _ h1,h2⟩,W.keep fun o e=>hk a (by simp) o e⟩
 item:=fun i s Q E hi ⟨⟨B,h1,h2⟩,W⟩ hQ=>by
  refine Zdz h1 W hf ht hnd h2 hh (fun v D h' J Z hI' ex=>?_) fun h' J _=>?_
  ·exact hQ v h' s.toks J ⟨⟨D,hI',Z⟩,W.keep fun o e=>ex a o hne e⟩ fun b o Y e=>ex b o (fun z=>Y (by simp [z])) e
  ·rw [getElem?_eq_getElem (by rw [Zbj];exact hi)] at J;cases J
 done:=fun s Q E ⟨⟨B,h1,h2⟩,W⟩ hQ=>by
  refine Zdz h1 W hf ht hnd h2 hh (fun v D h' J Z hI' ex=>?_) fun h' J ex=>?_
  ·rw [PQ (by rw [Zbj];exact Qe _)] at J;cases J
  ·exact hQ h' s.toks fun b o Y e=>ex b o (fun z=>Y (by simp [z])) e
 self:=fun i s Q E ⟨⟨B,h1,_⟩,_⟩ q=>Zdu h1 q
theorem Zib {ys:List Nat}(hne:a≠I)(hnT:T≠I)(hf:t.fits xs.size=true)(hy:∀ y∈ys,y < xs.size)(hh:A.handled=none) :
 Walks prog w A I [I,a,T] [I] ys.length (fun i v=>∃ (y:Nat) (e:Int×Qb),ys[i]?=some y/\xs[y]?=some e/\e.2=v) (fun i h=>h.get? I=some (itO (.ref T) i a xs.size ep)/\h.get? T=some { cls:=.type "tuple",data:=.seq (ys.map fun (i:Nat)=>Gb i).toArray e0 }/\SetRw h a xs ep t) where
 sub:=fun b J=>by simp at J;simp [J]
 frame:=fun i h h' ⟨h1,h2,D⟩ Z=>⟨Z I (by simp) _ h1,Z T (by simp) _ h2,D.keep fun o e=>Z a (by simp) o e⟩
 item:=fun i s Q E hi ⟨h1,h2,D⟩ Y=>by
  refine Zcd h1 h2 D hf hy hh (fun y v h' B hv W ex=>?_) fun h' B _=>?_
  ·exact Y v.2 h' s.toks ⟨y,v,B,hv,rfl⟩ ⟨W,ex T _ hnT h2,D.keep fun o e=>ex a o hne e⟩ fun b o J e=>ex b o (fun z=>J (by simp [z])) e
  ·rw [getElem?_eq_getElem hi] at B;cases B
 done:=fun s Q E ⟨h1,h2,D⟩ Y=>by
  refine Zcd h1 h2 D hf hy hh (fun y v h' B hv W ex=>?_) fun h' B ex=>?_
  ·rw [PQ (Qe _)] at B;cases B
  ·exact Y h' s.toks fun b o J e=>ex b o (fun z=>J (by simp [z])) e
 self:=fun i s Q E ⟨h1,_,_⟩ q=>Zdu h1 q
theorem Zkp (hh:A.handled=none)(G:SetG prog w s.heap a ks)(q:∀ (I:Addr) (h':Heap) (d:Nv) (fp:List Addr) (n:Nat) (P:Nat->Qb->Prop) (St:Nat->Heap->Prop),Walks prog w A I fp [I] n P St->St 0 h'->s.heap.objs.size<=I->(∀ b o,s.heap.get? b=some o->h'.get? b=some o)->(∀ b∈fp,b=a\/s.heap.objs.size<=b)->n=ks.length ->
  (∀ z:Array Qb,ItemsOf P z n->(z.toList.map Wc).Perm ks/\∀ v∈z.toList,∃ k,YZ k v=true)->Q (.ref I) { s with heap:=h',drawn:=d }):Qp (Qt prog w) A (Mf (.ref a)) Q E s:=by
 obtain ⟨o,xs,ep,t,ho,hx,hd,h1,h2,h3,h4,h5,h6⟩:=G
 have hR:SetRw s.heap a xs ep t:=⟨o,ho,hx,hd⟩
 have lt:=Qj ho
 have hl:xs.size=ks.length:=by rw [<- h2.length_eq];unfold UG;rw [length_map,Qu]
 have J:∀ l:List Qb,l.Perm (xs.toList.map (·.2))->(l.map Wc).Perm ks/\∀ v∈l,∃ k,YZ k v=true:=fun l p=>by
  refine ⟨?_,fun v B=>?_⟩
  ·refine (p.map Wc).trans ?_
   rw [map_map];exact h2
  ·obtain ⟨e,he,rfl⟩:=mem_map.mp (p.mem_iff.mp B)
   obtain ⟨⟨k,hk,_⟩,_⟩:=h1 e he
   exact ⟨k,hk⟩
 refine ZfT hR h5 h4 (fun hc=>?_) fun ys d D p=>?_
 ·refine q _ _ s.drawn _ _ _ _ (ZjP (ep:=ep) (Qn lt) h5 h6 hc hh) ⟨⟨0,Qk _ rfl,.inr (ZgW h6.rz)⟩,hR.keep fun o e=>Qc _ e⟩ (Qe _) (fun b o e=>Qc _ e) (fun b D=>?_) hl fun z W=>?_
  ·simp only [mem_cons,not_mem_nil,or_false] at D
   rcases D with rfl | rfl
   ·exact .inr (Qe _)
   ·exact .inl rfl
  ·refine J _ ?_
   have e:z.toList=Ut w a ep xs:=by
    refine Sy fun j=>?_
    by_cases hj:j < z.size
    ·have B:=QV hj
     rw [QP,B,W.2 j _ B]
    ·rw [QP,PB (by omega),PQ (by rw [Zbj,<- W.1];omega)]
   rw [e];exact ordE_perm
 ·have hy : ∀ y∈ys,y < xs.size:=fun y hy=>mem_range.mp (p.mem_iff.mp hy)
  have Z:ys.length=xs.size:=by rw [p.length_eq,length_range]
  refine q _ _ d _ _ _ _ (Zib (ep:=ep) (e0:=0) (T:=s.heap.objs.size) (ys:=ys) (Qn (Gi lt)) (Qn (GN _)) h5 hy hh) ⟨?_,?_,hR.keep fun o e=>Qc _ (Qc _ e)⟩ (Gh _) (fun b o e=>Qc _ (Qc _ e)) (fun b D=>?_) (Z.trans hl) fun z W=>?_
  ·have:=Qk (s.heap.push { cls:=.type "tuple",data:=.seq (ys.map fun (i:Nat)=>Gb i).toArray }) (o:=itO (.ref s.heap.objs.size) 0 a xs.size ep) rfl
   rw [Gc] at this
   exact this
  ·exact Qc _ (Qk _ rfl)
  ·simp only [mem_cons,not_mem_nil,or_false] at D
   rcases D with rfl | rfl | rfl
   ·exact .inr (Gh _)
   ·exact .inl rfl
   ·exact .inr (Qe _)
  ·refine J _ ?_
   have e:z.toList=ys.filterMap fun y=>(xs.toList.map (·.2))[y]?:=by
    have e2:∀ (l:List Nat) (vs:List Qb),l.length=vs.length->(∀ (j:Nat) y v,l[j]?=some y->vs[j]?=some v->(xs.toList.map (·.2))[y]?=some v)->vs=l.filterMap fun y=>(xs.toList.map (·.2))[y]?:=by
     intro l
     induction l with
     | nil=>intro vs h _;cases vs with
      | nil=>rfl
      | cons _ _=>cases h
     | cons y l ih =>
      intro vs h B
      cases vs with
      | nil=>cases h
      | cons v vs =>
       rw [filterMap_cons,B 0 y v rfl rfl]
       exact congrArg (v::·) (ih vs (by simpa using h) fun j y' v' g1 Y=>B (j+1) y' v' g1 Y)
    refine e2 ys _ (by rw [Qu];exact W.1.symm) fun j y v g1 Y=>?_
    rw [QP] at Y
    obtain ⟨y',e',g3,g4,g5⟩:=W.2 j v Y
    rw [g1] at g3;cases g3
    rw [getElem?_map,QP,g4];exact congrArg some g5
   rw [e]
   refine (p.filterMap _).trans ?_
   have:=PySem.List.filterMap_getElem?_range_length (xs.toList.map (·.2))
   rw [length_map,Qu] at this
   rw [this]
end
end L2
namespace L2
open PySem PySem.Spec PyProof.Rows
section
variable {prog:Ql}{w:Qs}{A:QL}{E:Qb->Qf->Prop}{s:Qf}
abbrev Zaj (w:Qs):Obj:={ cls:=.type "set",dict:=none,data:=.set #[] 0 (.fresh 0 0 (!XX w)) }
theorem Zil {items:Array Qb}(hh:A.handled=none)(hl:s.heap.IsList l items)(hn:ks.length=items.size)(hi:∀(i:Nat)(k:Zj)(v:Qb),ks[i]?=some k->items[i]?=some v->YZ k v=true)(hb:items.size+1 < Ri)(q:∀ (h':Heap) (tk:Nat),SetG prog w h' s.heap.objs.size (Xh ks)->(∀ b o,s.heap.get? b=some o->h'.get? b=some o)->Q (.ref s.heap.objs.size) { s with heap:=h',toks:=tk }):
 Qp (Qt prog w) A (call (.type "set") [.ref l]) Q E s:=by
 obtain ⟨c,tl,hmro⟩:=PySem.F.called_set.mro
 have hmade:=PySem.F.called_set.made
 have hsub:=PySem.F.called_set.sub
 have h1:=PySem.F.called_set.notType
 have h2:=Pa.canCreate
 have hct:=PySem.F.typeCall_set_1 (.ref l)
 refine Rr (RL ?_)
 refine Qh ⟨Ni _ (by decide +kernel),Gr PySem.F.entry_type_call ?_⟩
 rw [Nj (RW "set" [.ref l] []) rfl]
 (repeat (any_goals (first | assumption | wp_step)))
 refine GV (Zns (.ref l) (E:=E) (Q:=fun v J=>v=.ref s.heap.objs.size/\J={ s with heap:=s.heap.push (Zaj w) }) ⟨rfl,rfl⟩) fun r J hr=>?_
 cases r with
 | error e=>exact hr
 | ok fl =>
  cases fl with
  | ret v =>
   obtain ⟨rfl,rfl⟩:=hr
   have hS:(s.heap.push (Zaj w)).get? s.heap.objs.size=some (Zaj w):=Qk _ rfl
   have hT:JS { s with heap:=s.heap.push (Zaj w) } (.ref s.heap.objs.size) "set":=⟨_,hS,rfl⟩
   have hli:=Pa.init.lookup
   have hbi:=Pa.init.bind (.ref s.heap.objs.size)
   (repeat (any_goals (first | assumption | wp_step)))
   refine GV (Ti (R:=wants (fun r D=>r=.none/\∃ h' tk,D={ s with heap:=h',toks:=tk }/\SetG prog w h' s.heap.objs.size (Xh ks)/\∀ b o,s.heap.get? b=some o->h'.get? b=some o) E) Pa.init.plain PySem.F.entry_set_init (check_set_init_1 hT ?_)) fun Y D z=>?_
   ·obtain ⟨ol,Z,hcl,nl,hdl⟩:=hl
    obtain ⟨ocls,W,odata,B⟩:=ol
    cases hcl;cases hdl
    have g1:(s.heap.push (Zaj w)).get? l=some { cls:=.type "list",dict:=W,data:=.seq items nl,slots:=B }:=Qc _ Z
    have hsls:=PySem.F.sub_list_set
    have hslf:=PySem.F.sub_list_frozenset
    have hne:(GO "list" == GO "dict")=false:=by decide
    have hl1:(s.heap.push (Zaj w)).IsList l items:=⟨_,g1,rfl,nl,rfl⟩
    unfold GR.«set.__init__» noKeywords MT
    generalize hPI:Mf=PI
    wp_walk
    subst hPI
    refine Pk hl1 (Qd (wpAny_runValue ?_))
    have lt:=Qj Z
    have noH:A.in1.in1.in1.handled=none:=by simp [hh]
    have ne1:l≠(s.heap.push (Zaj w)).objs.size:=by rw [Gc];exact Qn (Gi lt)
    have ne2:s.heap.objs.size ∉ [(s.heap.push (Zaj w)).objs.size,l]:=by
     rw [Gc]
     simp only [mem_cons,not_mem_nil,or_false,not_or]
     exact ⟨Qn (GN _),GI lt⟩
    refine Zlt ((Walks.list noH _ l ne1 items).toS) s.heap.objs.size ne2 ks hn (fun i k v e1 e2=>hi i k v e1 e2) hb items.size 0 _ rfl (Qw _) ⟨⟨_,Qk _ rfl,rfl,rfl⟩,hl1.push _⟩ (newG.keep fun o e=>Qc _ e) fun s' mv G=>?_
    obtain ⟨h',g',d',tk',os'⟩:=s'
    have eg:g'=s.gens:=mv.gens
    have ed:d'=s.drawn:=mv.drawn
    have eo:os'=s.os:=mv.os
    subst eg ed eo
    refine Qh (Qh ⟨rfl,h',tk',rfl,G,fun b o e=>mv.heap b o ?_ (Qc _ (Qc _ e))⟩)
    have lb:=Qj e
    rw [Gc]
    simp only [mem_cons,not_mem_nil,or_false,not_or]
    exact ⟨Qn lb,Qn (Gi lb)⟩
   ·cases Y with
    | error e=>exact z
    | ok fl₂ =>
     cases fl₂ with
     | ret r =>
      obtain ⟨rfl,h',tk,rfl,G,hk'⟩:=z
      (repeat (any_goals (first | assumption | wp_step)))
      exact q _ _ G hk'
     | _=>exact z.elim
  | _=>exact hr.elim
end
end L2
namespace L2
open PySem PySem.W PySem.Spec PyProof.Rows
section
variable {prog:Ql}{w:Qs}{A:QL}{E:Qb->Qf->Prop}{s:Qf}{a:Addr}
theorem Zkn {Q:Bool->Qf->Prop}(B:s.TypeIs (.ref a) "set")(h:Q false s):Qp (Qt prog w) A (TJ (.ref a)) Q E s:=by
 unfold TJ
 refine Qd (MJ B PySem.F.slot_set_len.lookup ?_)
 generalize hz:("set.__len__":String)=z
 wp_delta
 rw [show splitId z=some ("set","__len__") from by subst hz;decide +kernel]
 subst hz
 refine Qd (Mw (T:="set") (b:=true) B (by rw [Ot];kernel_rfl) ?_)
 refine JA (fun y=>absurd y (by decide)) (fun _=>?_)
 refine JA (fun _=>Qd (RC B (Qh h))) (fun y=>absurd (by decide +kernel) y)
theorem ZfK (hh:A.handled=none)(G:SetG prog w s.heap a ks)(k:∀ (h':Heap) (d:Nv) (tk:Nat) (D:Array Qb),s.heap.objs.size < h'.objs.size->(∀ b o,s.heap.get? b=some o->h'.get? b=some o)->(D.toList.map Wc).Perm ks->(∀ v∈D.toList,∃ k,YZ k v=true)->R D.toList { s with heap:=h',drawn:=d,toks:=tk }):
   Qp (Qt prog w) A (collect (.ref a)) R E s:=by
 have hks:ks.length<=sizeLine:=by
   obtain ⟨o,xs,ep,t,ho,hx,hd,h1,h2,h3,h4,h5,h6⟩:=G
   rw [<- h2.length_eq];unfold UG;rw [length_map,Qu];exact Pz h4
 have here:(s.heap.push { cls:=.type "list",data:=.seq ([]:List Qb).toArray }).get? s.heap.objs.size=some { cls:=.type "list",data:=.seq #[] }:=Qk _ rfl
 let Fn:OU->Qf->Prop:=fun q s'=>∃ (h':Heap) (d:Nv) (tk:Nat) (B:Array Qb) (c:Nat),(q=.ok (.ret (.ref s.heap.objs.size))/\s'={ s with heap:=h',drawn:=d,toks:=tk })/\(∀ b o,s.heap.get? b=some o->h'.get? b=some o)/\h'.get? s.heap.objs.size=some { cls:=.type "list",dict:=none,data:=.seq B c,slots:=#[] }/\(B.toList.map Wc).Perm ks/\∀ v∈B.toList,∃ k,YZ k v=true
 have J:∀ s',Fn (.ok (.ret (.ref s.heap.objs.size))) s'->Qp (Qt prog w) A (do match (<- load s.heap.objs.size).data with | .seq xs _=>pure xs.toList | _=>unsupported "internal:collect") R E s':=by
   rintro s' ⟨h',d,tk,B,c,⟨_,rfl⟩,hk,hs,hp,hv⟩
   exact Qd (wpAny_load hs (Qh (k h' d tk B (Qj hs) hk hp hv)))
 have G1:SetG prog w (s.heap.push { cls:=.type "list",data:=.seq ([]:List Qb).toArray }) a ks:=G.keep fun o e=>Qc _ e
 have hal:a < s.heap.objs.size:=by obtain ⟨o,_,_,_,ho,_⟩:=G;exact Qj ho
 have hT:JS { s with heap:=s.heap.push { cls:=.type "list",data:=.seq ([]:List Qb).toArray } } (.ref a) "set":=by obtain ⟨o,_,_,_,ho,hx,_⟩:=G1;exact ⟨o,ho,hx.1⟩
 have run:Qp (Qt prog w) A.in1 (TK (.ref s.heap.objs.size) (.ref a) (.ref s.heap.objs.size))
     (fun J s'=>match J with | .done f=>Fn (.ok f) s' | .again c'=>c'.quiet=true/\JN (Qt prog w) A c' Fn s') (fun e s'=>Fn (.error e) s') { s with heap:=s.heap.push { cls:=.type "list",data:=.seq ([]:List Qb).toArray } }:=by
   unfold TK
   refine Qd (RC (T:="set") hT ?_)
   have n1:SU (.ref s.heap.objs.size) (.ref a)=false:=by simp [SU,GI hal]
   have n2:(GO "set" == GO "list")=false:=by decide
   have n3:(GO "set" == GO "tuple")=false:=by decide
   simp only [n1,n2,n3,OJ,Gx,if_false]
   refine Qd (Zkp (A:=A.in1) hh G1 fun I h1 d fp n P St W st hI hk hfp hn hP=>?_)
   rw [Gc] at hI hfp
   have ne1:s.heap.objs.size ∉ fp:=fun z=>by
     rcases hfp _ z with y | y
     · exact GI hal y
     · exact absurd y (Nat.not_succ_le_self _)
   have key:∀ (h:Heap) (c:Nat),St 0 h->(∀ b o,s.heap.get? b=some o->h.get? b=some o)->h.get? s.heap.objs.size=some { cls:=.type "list",dict:=none,data:=.seq #[] c,slots:=#[] } ->
       JN (Qt prog w) A (.builtin "list.extend.loop" ⟨[.ref s.heap.objs.size,.ref I,.ref s.heap.objs.size],[]⟩) Fn { s with heap:=h,drawn:=d }:=fun h c hst Y hS=>by
     refine codeAny_extend_loopS W.toS (by rw [hn];exact hks) s.heap.objs.size ne1 (.ref s.heap.objs.size) n 0 _ #[] c rfl (Qw _) hst hS (ItemsOf.nil _) fun s' D c' mv hS' hacc=>?_
     obtain ⟨h2,g2,d2,tk2,os2⟩:=s'
     have eg:g2=s.gens:=mv.gens
     have ed:d2=d:=mv.drawn
     have eo:os2=s.os:=mv.os
     subst eg ed eo
     refine ⟨h2,d2,tk2,D,c',⟨rfl,rfl⟩,fun b o e=>mv.heap b o (fun z=>?_) (Y b o e),hS',hP D hacc⟩
     have lb:=Qj e
     rcases mem_cons.mp z with y | y
     · exact Qn lb y
     · rw [mem_singleton.mp y] at lb
       exact absurd (QA lb (Nat.le_of_succ_le hI)) (Gz _)
   have Z:=hk _ _ here
   have Y:∀ b o,s.heap.get? b=some o->h1.get? b=some o:=fun b o e=>hk b o (Qc _ e)
   have hT1:JS { s with heap:=h1,drawn:=d } (.ref a) "set":=by obtain ⟨o,ho,hc⟩:=hT;exact ⟨o,hk _ _ ho,hc⟩
   refine Qd (QX (Zkn (s:={ s with heap:=h1,drawn:=d }) hT1 ?_))
   refine JA (fun _=>?_) (fun _=>Qh ⟨JF Sh _,key _ _ st Y Z⟩)
   refine Qd (PR (Qd ?_))
   show Qp _ _ (updateSeq s.heap.objs.size (·.push .none) >>= fun _=>updateSeq s.heap.objs.size (·.pop)) _ _ _
   refine Qd (MU Z rfl ?_)
   have hS2:=GQ (QC (·.push Jc)) Z rfl
   refine MU (hz:=by seq_fits) hS2 rfl ?_
   have hS3:=GQ (QC (·.pop)) hS2 rfl
   have up:∀ b,b≠s.heap.objs.size->∀ o,h1.get? b=some o->((h1.update s.heap.objs.size (QC (·.push Jc))).update s.heap.objs.size (QC (·.pop))).get? b=some o:=fun b nb o e =>
     (Jw _ _ (Jv nb)).trans ((Jw _ _ (Jv nb)).trans e)
   exact Qh ⟨JF Sh _,key _ _ (W.frame 0 _ _ st fun b hb o e=>up b (fun z=>ne1 (z ▸ hb)) o e) (fun b o e=>up b (Qn (Qj e)) o (Y b o e)) hS3⟩
 unfold collect
 refine Qd (wpAny_runValue (Gr entry_proto_collect' ?_))
 rw [Gm PySem.F.plain_proto_collect _]
 refine Qd (m:=newList []) (Gg (Qh ⟨JF Rl _,Gr entry_list_iadd' ?_⟩))
 rw [Gm Rl _]
 refine Gj run (fun f s' x=>?_) fun e s' x=>?_
 · cases f with
   | done f =>
     obtain ⟨h',d,tk,B,c,⟨e,e2⟩,r'⟩:=x
     cases e
     exact J s' ⟨h',d,tk,B,c,⟨rfl,e2⟩,r'⟩
   | again c₁ =>
     refine ⟨x.1,GV x.2 fun q s₂ y=>?_⟩
     obtain ⟨h',d,tk,B,c,⟨e,e2⟩,r'⟩:=y
     subst e
     exact J s₂ ⟨h',d,tk,B,c,⟨rfl,e2⟩,r'⟩
 · obtain ⟨_,_,_,_,_,⟨e',_⟩,_⟩:=x
   cases e'
end
def ZgT (P:Ql)(w:Qs)(p:Addr)(ks:List Zj):Heap->Prop:=fun h=>SetG P w h p ks
theorem ZmB (h:RelV (kV k) v):YZ k v=true:=by
 cases k with
 | inl i=>obtain ⟨t,rfl⟩:=h;exact Zdv i t
 | inr x=>obtain ⟨t,rfl⟩:=h;exact Zdw x t
theorem ZgN:∀{xs:List V}{us:List Qb},Vals xs us->∀(i:Nat)(x:V)(u:Qb),xs[i]?=some x->us[i]?=some u->RelV x u
 | _,_,.nil,i,x,u,h,_=>by simp at h
 | _,_,.cons r t,0,x,u,h,g=>by cases h;cases g;exact r
 | _,_,.cons r t,i+1,x,u,h,g=>ZgN t i x u h g
section
variable {X:Cx}
theorem Inv.draw (I:Inv X pins σ H s)(d:Nv):Inv X pins σ H { s with drawn:=d } :=
 ⟨I.ok,I.os,I.bare,I.base,I.loc,I.cell,I.free,I.freeC,I.pin,I.hok,I.len⟩
theorem Zey (W:X.calm=true):Yv X (.type "set") (fun xs H Q=>∃ (l:Addr) (ks:List Zj),xs=[.ref l]/\SqL X.K H l (ks.map kV)/\ks.length<=1000 /\
 ∀ p,H p=none->Q (.ref p) (upd H p (.ext (ZgT X.prog X.w p (Xh ks))))):=by
 intro pins s σ H xs us Q I r h
 obtain ⟨l,ks,rfl,Y,hk,q⟩:=h
 obtain ⟨u,rfl,Z⟩:=Yr r
 cases Z
 obtain ⟨z,D,p,hz⟩:=I.list Y
 have B:z.length=ks.length:=by have:=D.length;rw [length_map] at this;exact this.symm
 refine Zil (items:=z.toArray) (ks:=ks) (I.ok.hd W) p.isList (by rw [size_toArray];exact B.symm) (fun i k v e1 J=>?_) (by rw [size_toArray,B];show _ < 4096;omega) fun h' tk G kp=>?_
 ·rw [Ob] at J
  exact ZmB (ZgN D i (kV k) v (by rw [getElem?_map,e1];rfl) J)
 ·have lt:∃ o,h'.get? s.heap.objs.size=some o:=by obtain ⟨o,_,_,_,ho,_⟩:=G;exact ⟨o,ho⟩
  exact ⟨.ref s.heap.objs.size,_,I.laid (t':=tk) kp (Qe _) (show ObjOk X.prog X.w _ _ _ (.ext (ZgT X.prog X.w s.heap.objs.size (Xh ks))) from ⟨G,lt,fun h1 h2 g k=>SetG.keep g k⟩),rfl,q _ (I.hok.fresh (Qe _))⟩
theorem ZiK {l ns:List Int}(h:(l.map (QD:Int->Zj)).Perm (ns.map QD)):l.Perm ns:=by
 have e:∀ l:List Int,(l.map (QD:Int->Zj)).filterMap Sum.getLeft?=l:=fun l=>by
  induction l with
  | nil=>rfl
  | cons a r ih=>rw [map_cons,filterMap_cons];exact congrArg (a::·) ih
 have:=h.filterMap Sum.getLeft?
 rwa [e,e] at this
theorem Zdr:∀{vs:List Qb}{ns:List Int},(∀ v∈vs,∃ k,YZ k v=true)->(∀ v∈vs,Wc v∈ns.map (QD:Int->Zj))->∃ l,NG vs l/\vs.map Wc=l.map QD
 | [],_,_,_=>⟨[],.nil,rfl⟩
 | v :: vs,ns,h,g=>by
  obtain ⟨l,h1,h2⟩:=Zdr (vs:=vs) (ns:=ns) (fun u z=>h u (mem_cons_of_mem _ z)) (fun u z=>g u (mem_cons_of_mem _ z))
  obtain ⟨k,B⟩:=h v mem_cons_self
  obtain ⟨i,_,e⟩:=mem_map.mp (g v mem_cons_self)
  rw [Vv B] at e
  subst e
  obtain ⟨j,t,e1,rfl⟩ | ⟨x,t,e1,_⟩:=Yd B
  ·cases e1
   exact ⟨i::l,.cons i t h1,by rw [map_cons,map_cons,h2];rfl⟩
  ·cases e1
theorem ZaX (hc:X.calm=true):Yv X (.builtin "sorted") (fun xs H Q=>∃ (p:Addr) (ns:List Int),xs=[.ref p]/\H p=some (.ext (ZgT X.prog X.w p (ns.map QD)))/\ns.length < 64 /\
 ∀ (l:Addr) (B:List Int),H l=none->B.Perm ns->B.Pairwise (·<=·)->Q (.ref l) (upd H l (.lst (B.map V.int)))):=by
 intro pins s σ H xs us Q I r h
 obtain ⟨p,ns,rfl,ep,h64,q⟩:=h
 obtain ⟨u,rfl,ru⟩:=Yr r
 cases ru
 obtain ⟨G,_,_⟩:=(show ObjOk X.prog X.w H s.heap p (.ext (ZgT X.prog X.w p (ns.map QD))) from I.hok p _ ep)
 refine PJ MC NN NO (args_sorted1 _) ?_
 unfold GR.«sorted»
 refine Qd (m:=checkCount "sorted" 1 1 _) (Qh ?_)
 refine Qd (ZfK (A:=X.A.in1) (I.ok.hd hc) G fun h' d tk z hgt hk hp hv=>?_)
 obtain ⟨l,hI,he⟩:=Zdr hv (fun v hv'=>hp.mem_iff.mp (mem_map.mpr ⟨v,hv',rfl⟩))
 rw [he] at hp
 have Y:=ZiK hp
 have Z:z.toList.length < 64:=by rw [hI.length,Y.length_eq];exact h64
 refine Qd (SO ?_ (by rw [QY];omega))
 have J:(h'.push { cls:=.type "list",data:=.seq z.toList.toArray }).get? h'.objs.size=some (QU "list" z.toList.toArray 0):=Qk _ rfl
 have D:∀ b o,h'.get? b=some o->(h'.push { cls:=.type "list",data:=.seq z.toList.toArray }).get? b=some o:=fun b o e=>Qc _ e
 have hsz:h'.objs.size < (h'.push { cls:=.type "list",data:=.seq z.toList.toArray }).objs.size:=Qj J
 show Qp _ _ _ _ _ { s with heap:=h'.push { cls:=.type "list",data:=.seq z.toList.toArray },drawn:=d,toks:=tk }
 generalize h'.push { cls:=.type "list",data:=.seq z.toList.toArray }=g at J D hsz ⊢
 refine Qd (QX (Jr Oq ⟨_,J,rfl⟩ RN (list_sort_tree (s:={ s with heap:=g,drawn:=d,toks:=tk }) J hI Z fun out B a1 a2 a3=>⟨_,rfl,Qh ⟨_,rfl,?_⟩⟩) (args_list_sort _)))
 obtain ⟨e,hat⟩:=sortedHeap_at (out:=out) J
 have W:=GG hgt
 refine ⟨.ref h'.objs.size,_,(I.draw d).laid (t':=tk) (h':=sortedHeap g h'.objs.size z.toList out) (o:=.lst (B.map V.int)) (fun b o hb=>?_) W ⟨?_,out.toList,e,Zaq a1,by rw [GY];exact hat⟩,rfl,q _ B (I.hok.fresh W) (a2.trans Y) a3⟩
 ·have lb:=Qj hb
  have ne:b≠h'.objs.size:=Qn (QA lb W)
  rw [sortedHeap_old ne (Rx (QA lb W) hsz)]
  exact D b o (hk b o hb)
 ·rw [length_map,a2.length_eq,Y.length_eq,QY];omega
end
end L2
namespace K24
open PySem L2
section
variable {P:Ql}{w:Qs}{K:Qa}{mg:Str->Option Qb}{base:Heap}{CR CS Pl:Addr}
def coN (pls:List ZE):Nat->Nat
 | 0=>0
 | k+1=>(pls.getD k ⟨0,.clr "",0,0⟩).co
theorem ZnU {k:Nat}(h:k<=pls.length):(V.int 0::pls.map fun q=>V.int (q.co:Int))[k]?=some (.int (coN pls k:Int)):=by
 cases k with
 | zero=>rfl
 | succ k =>
  rw [GC,getElem?_map,getElem?_eq_getElem (show k < pls.length by omega)]
  show _=some (V.int ((pls.getD k ⟨0,.clr "",0,0⟩).co:Int))
  rw [getD_eq_getElem?_getD,getElem?_eq_getElem (show k < pls.length by omega)];rfl
inductive Zco (K:Qa)(CR CS:Addr)(vs:List V)(H:Hp)(Q:VK)(w_3:XK):Prop
 | mk (r:Addr) (pls:List ZE) (nds:List Nd) (tabs:List (Zj×V)) (k:Nat):vs=[.ref r,.int (k:Int)]->RdR K CR CS r pls nds tabs H->k<=pls.length->Q (.int (coN pls k:Int)) H->Zco K CR CS vs H Q w_3
abbrev nRCo:List Str:=["self","place"]
abbrev Zec:List Str:=["self","place"]
theorem ZpU:Zp nRCo Zec (Zk c_Roads_cost):={}
theorem ZmL (F:Fun K "cost" "Roads.cost" c_Roads_cost f fd)(T:Yl mg)(D:Xo K CR)(z:DefM P w K mg base 1 CR "check_place" ZaD (ZaG K CR CS)):FnOk P w K mg base ZJ 2 f fd Zec (Zco K CR CS):=by
 refine F.ok ZpU (fun Z A outer s H vs Q E hr h=>?_)
 obtain ⟨r,pls,nds,B,k,rfl,R,J,q⟩:=h
 obtain ⟨st,la,ls,lt,W,S⟩:=id R
 obtain ⟨dx,Y⟩:=S.get r
 refine' ⟨?t,?h,?r⟩
 case h =>
  conv=>arg 2;whnf
  with_reducible refine' (Ze ?h1 (Zg ?h2))
  case h1=>exact ZY (ZT z D.cl hr (pv 0) (Zb (pv 1) Za))
  case h2=>exact Zn (Zo ZD (ZS (pv 0) rfl) (pv 1) (fun _ _=>rfl))
 try dsimp only [ZR,Cx.nox]
 refine UI ?_
 intro zD zS zN1
 refine ⟨_,rfl,r,dx,_,rfl,Y,Yq (by decide +kernel),_,rfl,r,pls,nds,B,k,rfl,R,J,?_⟩
 exact ⟨_,rfl,r,CR,dx,_,_,rfl,Y,D.cl,D.nc,Zlp,_,rfl,W,_,_,_,rfl,rfl,SqL.of (S.get W),Zr (ZnU J),q⟩
def Zac (l:List Nat)(i:Nat):List Int:=(Gn i).map fun (j:Nat)=>((j:Int)+1) * (((l.getD j 0:Nat):Int) - 96)
theorem ZiN (l:List Nat):∀ i,(Zac l i).sum=XY l i
 | 0=>rfl
 | i+1=>by
  unfold Zac
  rw [Tr,map_append,MN]
  have:=ZiN l i
  unfold Zac at this
  rw [this]
  show XY l i+(((i:Int)+1) * (((l.getD i 0:Nat):Int) - 96)+0)=XY l i+((i:Int)+1) * (((l.getD i 0:Nat):Int) - 97+1)
  rw [show ((l.getD i 0:Nat):Int) - 97+1=((l.getD i 0:Nat):Int) - 96 by omega];omega
inductive ZhP (vs:List V)(H:Hp)(Q:VK)(w_3:XK):Prop
 | mk (x:Str):vs=[.str x]->Yt x->(∀ H',Same H H'->Q (.int (Zh x)) H')->ZhP vs H Q w_3
abbrev Zhj:List Str:=["_law_name","_law_letters"]
abbrev Zht:List Str:=["_law_name"]
theorem scLMk:Zp Zhj Zht (Zk s_l_mark):={}
theorem Zoy (F:Fun K "_law_mark" "_law_mark" s_l_mark f fd)(T:Yl mg):FnOk P w K mg base ZJ 1 f fd Zht ZhP:=by
 refine F.ok scLMk (fun cdv A outer s H vs Q E hr h=>?_)
 obtain ⟨x,rfl,hx,q⟩:=h
 have hz:x.cps.size<=100:=by have:=hx.2.1;show x.length<=100;omega
 have Y:=hx.2.2
 refine' ⟨?t,?h,?r⟩
 case h =>
  conv=>arg 2;whnf
  with_reducible refine' (Ze ?h1 (Zg ?h2))
  case h1=>exact Zx (i:=1) scLMk.nd rfl (Jg rfl) ZU
  case h2=>exact Zn (Zz (Zkb rfl) rfl T.sum (by decide +kernel) (Zb (Vz (xa:="_law_place") (xb:="_law_sign") (CompOkT.of Zhj s_l_mark rfl rfl (by decide +kernel)) rfl (ZkU rfl T.enumerate (pv 0)) (fun _ _ _ _ _=>Vb (K:=K) rfl rfl (ZI (i:=2) (show (UM Zhj "_law_place" "_law_sign"++(["_law_place","_law_sign"]:List Str)).Nodup by decide +kernel) rfl (Qy rfl) (Jg rfl)) (ZI (i:=3) (show (UM Zhj "_law_place" "_law_sign"++(["_law_place","_law_sign"]:List Str)).Nodup by decide +kernel) rfl (Qy rfl) (Jg rfl)))  (fun _ _ _ _ _=>Zt Wr (Zt Yu (pv 2) Zd) (Zt Yu (ZoH (K:=K) rfl GL PD PF Zbg (pv 1) (Zb (pv 3) Za)) Zd))) Za))
 try dsimp only [ZR,Cx.nox]
 refine UI ?_
 intro zD zS zN1
 refine ⟨_,rfl,x,rfl,fun D hD=>?_⟩
 refine ZfL (Qr hz (by decide)) (fun i ys H'=>ys=(Zac x.cps.toList i).map V.int/\i<=x.cps.size/\H' D=some (.lst ys)/\Same H H') ⟨rfl,Qw _,Zi,ZC hD _⟩ ?_ ?_ ?_
 ·rintro i ys H' ⟨rfl,_⟩;unfold Zac;rw [length_map,length_map,length_range]
 ·rintro i c t ys H1 wa wb W ht ⟨rfl,hi,B,s1⟩
  have Z:i < x.cps.size:=(JL.mp W).1
  have htD:D≠t:=fun z=>by rw [z,ht] at B;cases B
  have hcl:WD c=true:=by
   have J:i < x.cps.toList.length:=by rw [Qu];exact Z
   have:=all_eq_true.mp Y _ (QS J)
   rw [Jb] at this
   rw [QV Z] at W
   cases W;exact this
  obtain ⟨f1,f2,f3⟩:=ZeK hcl
  refine ⟨t,_,rfl,SqT.of Zi,rfl,_,_,rfl,_,_,rfl,rfl,⟨_,_,rfl⟩,?_⟩
  refine ⟨_,rfl,_,_,rfl,rfl,_,rfl,rfl,_,rfl,a26,_,rfl,rfl,by rw [f1];omega,_,_,rfl,rfl,_,_,rfl,rfl,.inl ⟨by omega,by omega⟩,by rw [Zl htD];exact B,?_,Z,Zi,fun b o e=>by rw [Zl (Zs e hD)];exact (s1.trans (ZC ht _)) _ _ e⟩
  have e1:x.cps.toList.getD i 0=c:=by rw [getD_eq_getElem?_getD,QP,W];rfl
  unfold Zac
  rw [Tr,map_append,map_append]
  show _++[V.int (((i:Int)+1) * (Txt.find a26 ⟨#[c]⟩+1))]=_++[V.int (((i:Int)+1) * (((x.cps.toList.getD i 0:Nat):Int) - 96))]
  rw [e1,f1,show (c:Int) - 97+1=(c:Int) - 96 by omega]
 ·rintro ys H1 ⟨rfl,_,B,s1⟩
  refine ⟨D,_,rfl,SqL.of B,?_,?_,?_⟩
  ·unfold Zac;rw [length_map,length_range];omega
  ·intro z hz'
   unfold Zac at hz'
   obtain ⟨j,hj,rfl⟩:=mem_map.mp hz'
   have hj':j < x.cps.size:=mem_range.mp hj
   have J:j < x.cps.toList.length:=by rw [Qu];exact hj'
   have W:=all_eq_true.mp Y _ (QS J)
   have hg:x.cps.toList.getD j 0=x.cps.toList[j]:=by rw [getD_eq_getElem?_getD,getElem?_eq_getElem J];rfl
   rw [hg]
   generalize x.cps.toList[j]=c at W
   unfold WD at W
   simp only [QO,decide_eq_true_eq] at W
   rw [Int.natAbs_mul]
   exact Qr (Nat.mul_le_mul (show ((j:Int)+1).natAbs<=100 by omega) (show ((c:Int) - 96).natAbs<=26 by omega)) (by decide)
  ·rw [ZiN];exact q H1 s1
theorem Zhl (D:List Int):∃ ns:List Int,Xh (D.map QD)=ns.map QD/\ns.Nodup/\(∀ m,m∈ns↔m∈D)/\ns.length<=D.length:=by
 have B:∀ ks:List Zj,(∀ k∈ks,∃ m:Int,k=QD m)->∃ ns:List Int,ks=ns.map Sum.inl:=by
  intro ks
  induction ks with
  | nil=>intro _;exact ⟨[],rfl⟩
  | cons k r ih =>
   intro h
   obtain ⟨m,rfl⟩:=h k mem_cons_self
   obtain ⟨ns,rfl⟩:=ih fun k J=>h k (mem_cons_of_mem _ J)
   exact ⟨m::ns,rfl⟩
 obtain ⟨ns,e⟩:=B (Xh (D.map QD)) fun k J=>by
  obtain ⟨m,_,rfl⟩:=mem_map.mp (onceK_mem.mp J);exact ⟨m,rfl⟩
 have inj:∀ {m:Int} {l:List Int},(QD m:Zj)∈l.map QD↔m∈l:=fun {m l}=>by
  rw [mem_map];exact ⟨fun ⟨a,h,e⟩=>by cases e;exact h,fun h=>⟨m,h,rfl⟩⟩
 refine ⟨ns,e,?_,fun m=>?_,?_⟩
 ·have:=ZfR (D.map QD)
  rw [e] at this
  exact (pairwise_map.mp this).imp fun h z=>h (by rw [z])
 ·rw [<- inj (l:=ns),<- e,onceK_mem,inj]
 ·have:=ZdC (D.map QD)
  rw [e,length_map,length_map] at this
  exact this
inductive Zly (vs:List V)(H:Hp)(Q:VK)(w_3:XK):Prop
 | mk (nl:Addr) (xs:List Str) (x:Str) (Δ:Rs):vs=[.ref nl,.str x]->Sep ((nl,Zv (xs.map V.str))::Δ) H->xs.length<=50->(∀ y∈xs,Yt y)->Yt x->(∀ (t:Addr) (H':Hp) (l:List Int),l.Nodup->(∀ m,m∈l↔m∈xs.map Zh)->H' t=some (.tup [.int ((XG (Zh x) 5 0 l).1:Int),.bl (decide ((XG (Zh x) 5 0 l).2=[Zh x]))])->Sep ((nl,Zv (xs.map V.str))::Δ) H'->Q (.ref t) H')->Zly vs H Q w_3
abbrev Zkv:List Str:=["_law_names_here","_law_name","_law_own","_law_left","_law_forks","_law_worth"]
abbrev Zhu:List Str:=["_law_names_here","_law_name"]
theorem scLWy:Zp Zkv Zhu (Zk s_l_way):={}
theorem ZmS (F:Fun K "_law_way" "_law_way" s_l_way f fd)(T:Yl mg)(DLM:Def P w K mg base 1 "_law_mark" Zht ZhP):FnOk P w K mg base ZJ 2 f fd Zhu Zly:=by
 refine F.ok scLWy (fun cdv A outer s H vs Q E hr h=>?_)
 obtain ⟨nl,xs,x,Δ,rfl,S,hl,hxs,hx,q⟩:=h
 refine' ⟨?t,?h,?r⟩
 case h =>
   conv=>arg 2;whnf
   with_reducible refine' (Ze ?h1 (Ze (VB ?h2 ?h3 (Ze ?h4 (Ze ?h5 (Zg ?h6)))) (Zg ?h7)))
   case h1=>exact XH (YQ (Zb (ZA DLM hr (Zb (pv 1) Za)) (Zb (Zz (ZaX rfl) rfl T.sorted (by decide +kernel) (Zb (Yk (Zey rfl) rfl T.set (by decide +kernel) (Zb (WE (CompOk.of Zkv s_l_way rfl rfl (by decide +kernel)) rfl (XT (pv 0))  (fun _ _ _ _ _=>ZA DLM hr (Zb (pv 6) Za))) Za)) Za)) (Zb Zd Za)))) (Ws rfl (Yb (ZI (i:=2) scLWy.nd rfl (Jg rfl)) (Yb (ZI (i:=3) scLWy.nd rfl (Qy rfl)) (Yb (ZI (i:=4) scLWy.nd rfl (Qy rfl)) XS))))
   case h2=>exact Ga
   case h3=>exact PW.pt (Zjm (ZP Zho (Zz ZL rfl T.len QM (Zb (pv 3) Za)) Zd (ZH _)) (Zgv (ZP ZaC (pv 4) Zd (ZH _))))
   case h4=>exact Zx (i:=5) scLWy.nd rfl (Jg rfl) (Zo ZD (Yh (Zb Zd (Zb Zd (Zb Zd (Zb Zd (Zb Zd Za)))))) (pv 4) (fun _ _=>rfl))
   case h5=>exact UQ (i:=3) (CompOk.of Zkv s_l_way rfl rfl (by decide +kernel)) rfl scLWy.nd rfl (Qy rfl) (XT (pv 3)) (fun _ _ _ _ _=>ZP Yo (Zt Xq (Zt Zbi (pv 6) (pv 5)) Zd) (Zt Xq (Zt Zbi (pv 2) (pv 5)) Zd) (ZH _)) (fun _ _ _ _ _=>pv 6) rfl
   case h6=>exact Zx (i:=4) scLWy.nd rfl (Qy rfl) (Zt Yu (pv 4) Zd)
   case h7=>exact Zn (YQ (Zb (pv 4) (Zb (YK (Zja hr.units) (pv 3) (Yh (Zb (pv 2) Za)) (ZH _)) Za)))
 try dsimp only [ZR,Cx.nox]
 refine zs3 ?_
 intro zD zS zN2 zN1
 refine ⟨_,rfl,x,rfl,hx,fun H1 s1=>?_⟩
 have S1:=S.mono s1
 refine ⟨_,rfl,nl,rfl,⟨_,SqL.of (S1.get nl)⟩,fun D hD=>?_⟩
 refine ZbJ (K:=K) (xs:=xs.map V.str) (Yy (show _<=1000 by rw [length_map];omega)) S1 hD (fun i ys J=>ys=(xs.take i).map (fun y=>V.int (Zh y))/\J=(nl,Zv (xs.map V.str))::Δ) ⟨rfl,rfl⟩ ?_ ?_ ?_
 · rintro i ys J H' ⟨_,rfl⟩ S';exact SqL.of (S'.get nl)
 · rintro i v ys J H' Z hyl ⟨rfl,rfl⟩ S'
   obtain ⟨y,hy,rfl⟩:∃ y,xs[i]?=some y/\V.str y=v:=by
     rw [getElem?_map] at Z
     cases e:xs[i]? with
     | none=>rw [e] at Z;cases Z
     | some y=>rw [e] at Z;exact ⟨y,rfl,Qo Z⟩
   refine ⟨_,rfl,y,rfl,hxs y (mem_of_getElem? hy),fun H2 s2=>⟨_,⟨?_,rfl⟩,S'.mono s2⟩⟩
   rw [take_succ,hy,map_append];rfl
 · rintro ys J H2 ⟨rfl,rfl⟩ hyl S2
   rw [length_map,take_of_length_le (Qe _)] at S2
   obtain ⟨ns,ens,hnd,hmem,hnl⟩:=Zhl (xs.map Zh)
   rw [length_map] at hnl
   have ek:((xs.map Zh).map (QD:Int->Zj)).map kV=xs.map fun y=>V.int (Zh y):=by rw [map_map,map_map];rfl
   refine ⟨D,(xs.map Zh).map QD,rfl,by rw [ek];exact SqL.of (S2.get D),by rw [length_map,length_map];omega,fun p hp=>?_⟩
   rw [ens]
   refine ⟨p,ns,rfl,Zi,by omega,fun B l0 hlp hpm _=>⟨(by show 3<=Qi;decide),fun tt htt=>⟨tt,_,rfl,SqT.of Zi,rfl,_,_,rfl,_,_,rfl,_,_,rfl,rfl,?_⟩⟩⟩
   generalize W:upd (upd (upd H2 p _) B _) tt _=H3
   have S3:=((((S2.new hp _).new hlp _).newE htt W).tail)
   clear W
   have S4:=((S3.drop p).drop D)
   have hnd0:l0.Nodup:=hpm.nodup_iff.mpr hnd
   have hmem0:∀ m,m∈l0↔m∈xs.map Zh:=fun m=>by rw [hpm.mem_iff];exact hmem m
   have hl0:l0.length<=50:=by rw [hpm.length_eq];omega
   have done:∀ (j:Nat) (l:List Int) (B:Addr) (x5:Option V) (H4:Hp),Sep ((B,Zv (l.map V.int))::(nl,Zv (xs.map V.str))::Δ) H4->l.length<=50->(j,l)=XG (Zh x) 5 0 l0 ->
       tRet (tTup (Xu (Zao 4) (Xu (tOp rEqD (Zao 3) (tLst (Xu (Zao 2) Xr))) Xr))) { nx:=fun x H'=>Q V.non H',rt:=Q } [some (.ref nl),some (.str x),some (.int (Zh x)),some (.ref B),some (.int (j:Int)),x5] H4:=by
     intro j l B x5 H4 S5 hll Y
     refine ⟨_,rfl,_,rfl,_,rfl,(by show 1<=Qi;decide),fun ol hol=>?_⟩
     generalize W:upd H4 ol _=H5
     have S6:=S5.newE hol W
     clear W
     obtain ⟨z1,z2,z3⟩:=Zdq (S6.get B)
     obtain ⟨y1,y2,_⟩:=Zdq (xs:=[Zh x]) (S6.get ol)
     refine ⟨_,_,z1,y1,z2,y2,z3,(by show 2<=Qi;decide),fun t2 ht2=>?_⟩
     generalize W:upd H5 t2 _=H6
     have S7:=S6.newE ht2 W
     clear W
     have e7:=S7.get t2
     have S8:=((S7.drop t2).drop ol).drop B
     refine q t2 H6 l0 hnd0 hmem0 ?_ S8
     rw [<- Y]
     have ed:Nm (.list (l.map Ji)) (.list ([Zh x].map Ji))=decide (l=[Zh x]):=by
       cases l with
       | nil=>rfl
       | cons a r =>
         cases r with
         | nil=>simp [Nm,PyData.eqvAll];rw [JU];simp
         | cons b r=>simp [Nm,PyData.eqvAll]
     rw [<- ed];exact e7
   refine ⟨fun m σ H'=>∃ (j:Nat) (l:List Int) (B:Addr) (x5:Option V),σ=[some (.ref nl),some (.str x),some (.int (Zh x)),some (.ref B),some (.int (j:Int)),x5]/\Sep ((B,Zv (l.map V.int))::(nl,Zv (xs.map V.str))::Δ) H'/\j<=5/\m=5 - j/\l.length<=50/\XG (Zh x) (5 - j) j l=XG (Zh x) 5 0 l0,
     ⟨5,0,l0,B,_,rfl,S4,by decide,rfl,hl0,rfl⟩,?_⟩
   rintro m σ H4 ⟨j,l,B,x5,rfl,S5,hj,rfl,hll,Y⟩
   refine ⟨_,rfl,B,_,rfl,.inl (SqL.of (S5.get B)),_,_,rfl,rfl,_,rfl,Xy (fun c=>?_) (fun c=>?_)⟩
   · refine ⟨_,rfl,_,_,rfl,rfl,_,rfl,Xy (fun c2=>?_) (fun c2=>?_)⟩
     · have hj5:j < 5:=by have:=of_decide_eq_true c2;omega
       have hlen:1 < l.length:=by have:=of_decide_eq_true c;rw [length_map] at this;omega
       refine ⟨_,fun σ' H' h=>h,(by show 5<=Qi;decide),fun wl hwl=>?_⟩
       have hw5:∀ j < 5,([V.int 1,V.int 4,V.int 16,V.int 64,V.int 256]:List V)[j]?=some (V.int (4 ^ j)):=by decide
       refine ⟨_,rfl,wl,_,_,_,rfl,rfl,SqL.of Zi,Zr (hw5 j hj5),?_⟩
       generalize W:upd H4 wl _=H5
       have S6:=(S5.newE hwl W).tail
       clear W
       have hp4:(0:Int) < 4 ^ j/\(4:Int) ^ j < 2 ^ 62:=by
         have:∀ j < 5,(0:Int) < 4 ^ j/\(4:Int) ^ j < 2 ^ 62:=by decide
         exact this j hj5
       refine ⟨_,rfl,B,rfl,⟨_,SqL.of (S6.get B)⟩,fun D2 hD2=>?_⟩
       refine ZfM (K:=K) (xs:=l.map V.int) (Yy (show _<=1000 by rw [length_map];omega)) S6 hD2 (fun i ys J=>ys=((l.take i).filter fun m=>decide (Uq m j=Uq (Zh x) j)).map V.int/\J=(B,Zv (l.map V.int))::(nl,Zv (xs.map V.str))::Δ) ⟨rfl,rfl⟩ ?_ ?_ ?_
       · rintro i ys J H' ⟨_,rfl⟩ S';exact SqL.of (S'.get B)
       · rintro i v ys J H' Z hyl ⟨rfl,rfl⟩ S'
         obtain ⟨y,hy,rfl⟩:∃ y,l[i]?=some y/\V.int y=v:=by
           rw [getElem?_map] at Z
           cases e:l[i]? with
           | none=>rw [e] at Z;cases Z
           | some y=>rw [e] at Z;exact ⟨y,rfl,Qo Z⟩
         refine ⟨_,rfl,_,rfl,_,_,rfl,rfl,hp4,_,_,rfl,rfl,(by show (0:Int) < 4;decide),_,rfl,_,rfl,_,_,rfl,rfl,hp4,_,_,rfl,rfl,(by show (0:Int) < 4;decide),rfl,_,rfl,?_⟩
         have edec:decide (V.int (y / 4 ^ j % 4)=V.int (Zh x / 4 ^ j % 4))=decide (Uq y j=Uq (Zh x) j):=by
           rw [decide_eq_decide];exact ⟨fun z=>V.int.inj z,fun z=>congrArg V.int z⟩
         rw [edec]
         refine Xy (fun c=>?_) (fun c=>?_)
         · refine ⟨_,rfl,_,⟨?_,rfl⟩,S'⟩
           rw [take_succ,hy,Nr,map_append]
           show _=_++(List.filter _ [y]).map V.int
           rw [filter_cons,if_pos c];rfl
         · refine ⟨_,⟨?_,rfl⟩,S'⟩
           rw [take_succ,hy,Nr,map_append]
           show _=_++(List.filter _ [y]).map V.int
           rw [filter_cons,if_neg c];simp
       · rintro ys J H6 ⟨rfl,rfl⟩ hyl S7
         rw [length_map,take_of_length_le (Qe _)] at S7
         refine ⟨_,rfl,_,_,rfl,rfl,5 - (j+1),by omega,j+1,_,D2,_,rfl,S7.drop B,by omega,rfl,Qr (JG _ _) hll,?_⟩
         rw [<- Y,show 5 - j=(5 - (j+1))+1 by omega]
         show _=if 1 < l.length then _ else _
         rw [if_pos hlen]
     · have hj5:j=5:=by have:¬ (j:Int) < 5:=fun z=>c2 (decide_eq_true z);omega
       subst hj5
       exact done 5 l B x5 H4 S5 hll Y
   · refine ZN ?_
     refine done j l B x5 H4 S5 hll ?_
     rw [<- Y]
     cases 5 - j with
     | zero=>rfl
     | succ f =>
       show (j,l)=if 1 < l.length then _ else _
       rw [if_neg fun z=>c (decide_eq_true (by rw [length_map];omega))]
end
end K24
namespace L2
open PySem PySem.Spec PyProof.Rows PySem.F
section
variable {prog:Ql}{w:Qs}{A:QL}{E:Qb->Qf->Prop}{s:Qf}
end
section
variable {X:Cx}
end
end L2
namespace K24
open PySem L2
theorem Zih {r:Int}(z:0<=r)(h1:r < 26):Xd a26.cps.toList r=some (97+r.toNat):=by
 have all:∀ k,k < 26->a26.cps.toList[k]?=some (97+k):=by decide +kernel
 exact ZbC z (all r.toNat (by omega))
def nmZ (stem:Str)(at' z:Int):Str:=Txt.slice stem none (some at')++(⟨#[97+(z / 26).toNat]⟩:Str)++(⟨#[97+(z % 26).toNat]⟩:Str)++Txt.slice stem (some at') none
theorem ZmH {D y z:Int}(h:nmZ B D y=nmZ B D z)(y0:0<=y)(y1:y < 676)(Z:0<=z)(Y:z < 676):y=z:=by
 have e:(nmZ B D y).cps.toList=(nmZ B D z).cps.toList:=by rw [h]
 unfold nmZ at e
 simp only [Uz,append_assoc] at e
 have W:=List.append_cancel_left e
 have J:=(JT (show (97+(y / 26).toNat)::(97+(y % 26).toNat)::_=(97+(z / 26).toNat)::(97+(z % 26).toNat)::_ from W))
 have e4:=(JT J.2).1
 have e5:=J.1
 omega
inductive Zbp (vs:List V)(H:Hp)(Q:VK)(w_3:XK):Prop
 | mk (p:Addr) (n:Nat) (many:Int) (Δ:Rs):vs=[.ref p,.int many]->Sep ((p,Bx n)::Δ) H->n<=900000->0<=many->many<=100->(∀ (l:Addr) (H':Hp) (xs:List Str),Sep ((l,Zv (xs.map V.str))::(p,Bx (n+20))::Δ) H'->xs.length=many.toNat->(∀ x∈xs,Yt x/\2<=x.length)->(2<=many->∃ u v,u∈xs/\v∈xs/\u≠v)->Q (.ref l) H')->Zbp vs H Q w_3
section
variable {P:Ql}{w:Qs}{K:Qa}{mg:Str->Option Qb}{base:Heap}
abbrev nNm:List Str:=["_law_box_here","_law_many","_law_letters","_law_size","_law_stem","_law_first","_law_step_here","_law_at","_law_found","_law_k","_law_one","_law_other"]
abbrev Zla:List Str:=["_law_box_here","_law_many"]
theorem scNm:Zp nNm Zla (Zk s_l_names):={}
theorem ZkG (F:Fun K "_law_names" "_law_names" s_l_names f fd)(T:Yl mg)(DT:DTk P w K mg base 1):FnOk P w K mg base ZJ 2 f fd Zla Zbp:=by
 refine F.ok scNm (fun cdv A outer s H vs Q E hr h=>?_)
 obtain ⟨p,n,many,Δ,rfl,S,hn,h0,h1,q⟩:=h
 have Z:=hr
 refine' ⟨?t,?h,?r⟩
 case h =>
  conv=>arg 2;whnf
  with_reducible refine' (Ze ?h1 (Ze ?h2 (Ze ?h3 (Ze ?h4 (Ze (Wt ?h5 ?h6 ?h7 ?h8 (Ze ?h9 (Zg ?h10)) ?h11) (Zg ?h12))))))
  case h1=>exact XH (YQ (Zb ZU (Zb (Zt Yu Zd (ZA DT Z (Zb (pv 0) (Zb Zd Za)))) Za))) (Ws rfl (Yb (ZI (i:=2) scNm.nd rfl (Jg rfl)) (Yb (ZI (i:=3) scNm.nd rfl (Qy rfl)) XS)))
  case h2=>exact Zx (i:=4) scNm.nd rfl (Qy rfl) (YL GL Oc Od Zgo ZU (Zb (WE (CompOk.of nNm s_l_names rfl rfl (by decide +kernel)) rfl (Xj rfl T.range (Zb (Zt YW (pv 3) Zd) Za))  (fun _ _ _ _ _=>Zo WS (pv 2) (ZA DT Z (Zb (pv 0) (Zb Zd Za))) (fun _ _=>rfl))) Za))
  case h3=>exact Zgu (i:=5) (j:=6) (k:=7) rfl scNm.nd rfl rfl rfl (by decide) (by decide) (by decide) rfl rfl rfl (Zb (ZA DT Z (Zb (pv 0) (Zb Zd Za))) (Zb (Zo ZD (Yh (Zb Zd (Zb Zd (Zb Zd (Zb Zd Za))))) (ZA DT Z (Zb (pv 0) (Zb Zd Za))) (fun _ _=>rfl)) (Zb (ZA DT Z (Zb (pv 0) (Zb (Zt YW (pv 3) Zd) Za))) Za))) rfl
  case h4=>exact Zx (i:=8) scNm.nd rfl (Qy rfl) (Yh Za)
  case h5=>exact Ga
  case h6=>exact rfl
  case h7=>exact Xj rfl T.range (Zb (pv 1) Za)
  case h8=>exact ZI (i:=9) scNm.nd rfl (Qy rfl)
  case h9=>exact XH (Zz ZfJ rfl T.divmod (by decide +kernel) (Zb (Zt Xq (Zt Yu (pv 5) (Zt Wr (pv 6) (pv 9))) Zd) (Zb Zd Za))) (Ws rfl (Yb (ZI (i:=10) scNm.nd rfl (Qy rfl)) (Yb (ZI (i:=11) scNm.nd rfl (Qy rfl)) XS)))
  case h10=>exact ZY (YL Qz QF QG Yp (pv 8) (Zb (Zt Wq (Zt Wq (Zt Wq (WF Zfr (pv 4) Wj (WG (pv 7))) (Zo WS (pv 2) (pv 10) (fun _ _=>rfl))) (Zo WS (pv 2) (pv 11) (fun _ _=>rfl))) (WF Zfr (pv 4) (WG (pv 7)) Wj)) Za))
  case h11=>exact fun _=>rfl
  case h12=>exact Zn (pv 8)
 try dsimp only [ZR,Cx.nox]
 refine zs6 ?_
 intro zD zS zN5 zN4 zN3 zN2 zN1
 refine ⟨_,rfl,p,_,7,_,rfl,S,by omega,by decide,by decide,fun r1 H1 a0 a1 S1=>⟨_,_,rfl,rfl,(by show 2<=Qi;decide),fun t ht=>⟨t,_,rfl,SqT.of Zi,rfl,_,_,rfl,_,_,rfl,rfl,?_⟩⟩⟩
 generalize W:upd H1 t _=H2
 have S2:=(S1.newE ht W).tail
 clear W
 refine ⟨rfl,_,rfl,_,_,rfl,rfl,_,rfl,by omega,by omega,fun D hD=>?_⟩
 have e1:(2+r1 - 2).toNat=r1.toNat:=by omega
 rw [e1]
 refine UK (Yy (show r1.toNat<=1000 by omega)) S2 hD (fun i ys Δ'=>∃ zs:List Str,ys=zs.map V.str/\(∀ z∈zs,∃ c,z=⟨#[c]⟩/\WD c=true)/\Δ'=(p,Bx (n+1+i))::Δ) ⟨[],rfl,(fun _ h=>nomatch h),rfl⟩ ?_ ?_
 ·rintro i ys Δ' H' hi hl ⟨zs,rfl,hz,rfl⟩ S'
  refine ⟨_,rfl,_,rfl,p,_,26,_,rfl,S'.pull p,by omega,by decide,by decide,fun r3 H3 b0 b1 S3=>?_⟩
  obtain ⟨c,hc,hcl⟩:=WI (x:=a26) US b0 (by rw [Xp];exact b1)
  refine ⟨a26,r3,c,rfl,rfl,by rw [Xp];decide,hc,_,⟨zs++[⟨#[c]⟩],by rw [map_append];rfl,?_,rfl⟩,S3.pull D⟩
  intro z hz'
  rcases mem_append.mp hz' with h | h
  ·exact hz z h
  ·rw [mem_singleton.mp h];exact ⟨c,rfl,hcl⟩
 rintro ys Δ' H3 ⟨zs,rfl,hz,rfl⟩ hl S3
 rw [length_map] at hl
 obtain ⟨g1,g2,g3⟩:=ZiD hz
 refine ⟨_,D,zs,rfl,rfl,SqL.of (S3.get D),by omega,?_⟩
 have S4:=S3.tail
 generalize Txt.join (Qq "") zs=B at *
 refine ⟨_,rfl,p,_,676,_,rfl,S4,by omega,by decide,by decide,fun r5 H5 b0 b1 S5=>⟨(by show 4<=Qi;decide),fun l hl4=>?_⟩⟩
 generalize W:upd H5 l _=H6
 have S6:=S5.newE hl4 W
 clear W
 refine ⟨_,rfl,p,_,4,_,rfl,S6.pull p,by omega,by decide,by decide,fun r7 H7 c0 c1 S7=>?_⟩
 obtain ⟨sv,hsm,hsv⟩:=ZcM (xs:=[.int 1,.int 27,.int 5,.int 251]) c0 c1
 obtain ⟨J,rfl,hst⟩:∃ z:Int,sv=.int z/\1<=z/\z<=251:=by
  simp only [mem_cons,not_mem_nil,or_false] at hsm
  rcases hsm with rfl | rfl | rfl | rfl<;>exact ⟨_,rfl,by decide,by decide⟩
 refine ⟨l,_,_,_,rfl,rfl,SqL.of (S7.get l),hsv,?_⟩
 have S8:=S7.drop l
 refine ⟨_,rfl,_,rfl,_,_,rfl,rfl,p,_,_,_,rfl,S8,by omega,by omega,by omega,fun r9 H9 d0 d1 S10=>⟨_,_,_,rfl,?_⟩⟩
 refine ⟨(by show 0<=Qi;decide),fun fl hfl=>?_⟩
 generalize W:upd H9 fl _=H11
 have S11:=S10.newE hfl W
 clear W
 refine ⟨_,rfl,many,rfl,by omega,by omega,?_⟩
 refine WQ (fun i σ H'=>∃ x9 x10 x11 xs,σ=[some (.ref p),some (.int many),some (.str a26),some (.int (2+r1)),some (.str B),some (.int r5),some (.int J),some (.int r9),some (.ref fl),x9,x10,x11]/\Sep ((fl,Zv (xs.map V.str))::(p,Bx (n+20))::Δ) H'/\xs.length=i/\(∀ x∈xs,Yt x/\2<=x.length)/\∀ j:Nat,j < i->xs[j]?=some (nmZ B r9 ((r5+J * (0+(j:Int))) % 676)))
  ⟨_,_,_,[],rfl,(S11.pull p).le (by omega) |>.pull fl,rfl,(fun _ h=>nomatch h),fun j h=>absurd h (by omega)⟩ ?_ ?_
 ·rintro i σ H' hi ⟨x9,x10,x11,xs,rfl,S',hxl,hxs,hxj⟩
  have hb:0<=J * (0+(i:Int)):=Int.mul_nonneg (by omega) (by omega)
  refine ⟨_,rfl,_,rfl,_,rfl,_,_,rfl,rfl,.inl ⟨by omega,by omega⟩,_,_,rfl,rfl,_,_,rfl,rfl,(by show (0:Int) < 676;decide),?_⟩
  obtain ⟨z,hz⟩:∃ z:Int,(r5+J * (0+(i:Int))) % 676=z:=⟨_,rfl⟩
  have hz0:0<=z:=by rw [<- hz];exact GF _ (by decide)
  have hz1:z < 676:=by rw [<- hz];exact Gy _ (by decide)
  refine ⟨z,26,congrArg (fun y=>[V.int y,V.int 26]) hz,⟨by decide,by decide⟩,fun t2 ht2=>⟨t2,_,rfl,SqT.of Zi,rfl,_,_,rfl,_,_,rfl,rfl,?_⟩⟩
  generalize W:upd H' t2 _=H12
  have S12:=(S'.newE ht2 W).tail
  clear W
  obtain ⟨Y,hc1,hcl1⟩:=WI (x:=a26) US (r:=z / 26) (by omega) (by rw [Xp];omega)
  obtain ⟨c2',hc2,hcl2⟩:=WI (x:=a26) US (r:=z % 26) (by omega) (by rw [Xp];omega)
  have ec1:Y=97+(z / 26).toNat:=Qo (hc1.symm.trans (Zih (by omega) (by omega)))
  have ec2:c2'=97+(z % 26).toNat:=Qo (hc2.symm.trans (Zih (by omega) (by omega)))
  have enm:Txt.slice B none (some r9)++(⟨#[Y]⟩:Str)++(⟨#[c2']⟩:Str)++Txt.slice B (some r9) none=nmZ B r9 z:=by rw [ec1,ec2];rfl
  have hsl:=ZjB (x:=B) d0 (by omega)
  refine ⟨_,rfl,.inl ⟨rfl,_,SqL.of (S12.get fl)⟩,_,rfl,_,rfl,r9,rfl,B,rfl,Yy (show B.length<=1000 by omega),_,rfl,_,rfl,a26,_,Y,rfl,rfl,by rw [Xp];decide,hc1,_,_,rfl,rfl,Yy (show _<=1000 by rw [Xc];omega),?_⟩
  refine ⟨_,rfl,_,rfl,a26,_,c2',rfl,rfl,by rw [Xp];decide,hc2,_,_,rfl,rfl,Yy (show _<=1000 by rw [Ys,Xc,Xc];omega),_,rfl,_,rfl,r9,rfl,B,rfl,Yy (show B.length<=1000 by omega),_,_,rfl,rfl,Yy (show _<=1000 by rw [Ys,Ys,Xc,Xc];omega),?_⟩
  refine ⟨fl,_,_,rfl,rfl,S12.get fl,YX (show _<=1000 by rw [length_map];omega),?_⟩
  have S13:=S12.put fl (.lst (xs.map V.str++[.str (Txt.slice B none (some r9)++(⟨#[Y]⟩:Str)++(⟨#[c2']⟩:Str)++Txt.slice B (some r9) none)]))
  refine ⟨_,_,_,xs++[Txt.slice B none (some r9)++(⟨#[Y]⟩:Str)++(⟨#[c2']⟩:Str)++Txt.slice B (some r9) none],rfl,by rw [map_append];exact S13,by simp [hxl],fun x hx=>?_,fun j hj=>?_⟩
  ·rcases mem_append.mp hx with h | h
   ·exact hxs x h
   ·rw [mem_singleton.mp h]
    refine ⟨⟨?_,?_,Ul (Ul (Ul (VH g3) (Vy hcl1)) (Vy hcl2)) (VH g3)⟩,?_⟩<;>(rw [Ys,Ys,Ys,Xc,Xc];omega)
  ·rw [enm]
   by_cases hji:j < i
   ·rw [getElem?_append_left (by omega)];exact hxj j hji
   ·have:j=i:=by omega
    subst this
    rw [getElem?_append_right (by omega),hxl,QZ,hz];rfl
 ·rintro σ H' ⟨x9,x10,x11,xs,rfl,S',hxl,hxs,hxj⟩
  refine ⟨_,rfl,q fl H' xs S' hxl hxs fun h2=>?_⟩
  have g0:=hxj 0 (by omega)
  have g1':=hxj 1 (by omega)
  refine ⟨_,_,mem_of_getElem? g0,mem_of_getElem? g1',fun z=>?_⟩
  have:=ZmH z (GF _ (by decide)) (Gy _ (by decide)) (GF _ (by decide)) (Gy _ (by decide))
  have e0:J * (0+((0:Nat):Int))=0:=by simp
  have e1':J * (0+((1:Nat):Int))=J:=by simp
  rw [e0,e1'] at this
  omega
end
inductive Zdb (vs:List V)(H:Hp)(Q:VK)(w_3:XK):Prop
 | mk (p:Addr) (n:Nat) (many:Int) (Δ:Rs):vs=[.ref p,.int many]->Sep ((p,Bx n)::Δ) H->n<=800000->1<=many->many<=60->(∀ (l:Addr) (H':Hp) (xs:List Str),Sep ((l,Zv (xs.map V.str))::(p,Bx (n+100))::Δ) H'->1<=xs.length->(xs.length:Int)<=many->xs.Nodup->(∀ x∈xs,Yt x)->(2<=many->2<=xs.length)->Q (.ref l) H')->Zdb vs H Q w_3
theorem ZnB {D:Type}{l:List D}{u v:D}(B:u∈l)(z:v∈l)(h:u≠v):2<=l.length:=by
 match l,B,z with
 | [a],B,z=>exact absurd ((mem_singleton.mp B).trans (mem_singleton.mp z).symm) h
 | _::_::_,_,_=>simp only [length_cons];omega
section
variable {P:Ql}{w:Qs}{K:Qa}{mg:Str->Option Qb}{base:Heap}
abbrev nPo:List Str:=["_law_box_here","_law_many","_law_letters","_law_found","_law_name","_law_one","_law_other","_law_twin"]
abbrev Zlb:List Str:=["_law_box_here","_law_many"]
theorem scPo:Zp nPo Zlb (Zk s_l_pool):={}
theorem ZmV (F:Fun K "_law_pool" "_law_pool" s_l_pool f fd)(T:Yl mg)(DT:DTk P w K mg base 1)(DN:Def P w K mg base 2 "_law_names" Zla Zbp):FnOk P w K mg base ZJ 3 f fd Zlb Zdb:=by
 refine F.ok scPo (fun cdv A outer s H vs Q E hr h=>?_)
 obtain ⟨p,n,many,Δ,rfl,S,hn,h0,h1,q⟩:=h
 have hr1:=hr.mono (show 1<=2 by decide)
 refine' ⟨?t,?h,?r⟩
 case h =>
  conv=>arg 2;whnf
  with_reducible refine' (Ze ?h1 (Ze (Wt ?h2 ?h3 ?h4 ?h5 (Ze ?h6 (Ze ?h7 (Zg ?h8))) ?h9) (Zg ?h10)))
  case h1=>exact XH (YQ (Zb ZU (Zb (Yh Za) Za))) (Ws rfl (Yb (ZI (i:=2) scPo.nd rfl (Qy rfl)) (Yb (ZI (i:=3) scPo.nd rfl (Jg rfl)) XS)))
  case h2=>exact Ga
  case h3=>exact rfl
  case h4=>exact XT (ZA DN hr (Zb (pv 0) (Zb (pv 1) Za)))
  case h5=>exact ZI (i:=4) scPo.nd rfl (Qy rfl)
  case h6=>exact Zck (i:=5) (j:=6) rfl scPo.nd rfl rfl (by decide) rfl rfl (Zb (Zt Yu (YL GL PD PF Zbg (pv 2) (Zb (Zo WS (pv 4) Zd (fun _ _=>rfl)) Za)) Zd) (Zb (Zt YW (YL GL PD PF Zbg (pv 2) (Zb (Zo WS (pv 4) Zd (fun _ _=>rfl)) Za)) Zd) Za)) rfl
  case h7=>exact Zx (i:=7) scPo.nd rfl (Qy rfl) (Zt Wq (Zt Wq (Zo WS (pv 2) (Zt Xq (pv 5) Zd) (fun _ _=>rfl)) (Zo WS (pv 2) (pv 6) (fun _ _=>rfl))) (WF Zfr (pv 4) (WG Zd) Wj))
  case h8=>exact ZY (YL Qz SQ SS Zdy (pv 3) (Zb (Zt Zfd (Yh (Zb (pv 4) Za)) (Zt ZoF (Yh (Zb (pv 7) Za)) (Yk VU rfl T.int (by decide +kernel) (Zb (WU (YK ZaC (pv 5) Zd (ZH _)) (WU (YK ZlX (pv 6) Zd (ZH _)) (Va (YK Yo (ZA DT hr1 (Zb (pv 0) (Zb Zd Za))) Zd (ZH _))))) Za)))) Za))
  case h9=>exact fun _=>rfl
  case h10=>exact Zn (WF ZcT (Zjf (xa:="_law_place") (xb:="_law_name") (CompOkT.of nPo s_l_pool rfl rfl (by decide +kernel)) rfl (ZkS rfl T.enumerate (pv 3)) (fun _ _ _ _ _=>Vb (K:=K) rfl rfl (ZI (i:=8) (show (UM nPo "_law_place" "_law_name"++(["_law_place","_law_name"]:List Str)).Nodup by decide +kernel) rfl (Qy rfl) (Jg rfl)) (ZI (i:=9) (show (UM nPo "_law_place" "_law_name"++(["_law_place","_law_name"]:List Str)).Nodup by decide +kernel) rfl (Qy rfl) (Jg rfl))) (fun _ _ _ _ _=>ZP (ZdW (K:=K) rfl) (pv 9) (WF (Zlv (K:=K) rfl) (pv 3) Wj (WG (pv 8))) rfl) (fun _ _ _ _ _=>pv 9)) Wj (WG (pv 1)))
 try dsimp only [ZR,Cx.nox]
 refine zs3 ?_
 intro zD zS zN2 zN1
 refine ⟨(by show 0<=Qi;decide),fun J hfl=>⟨(by show 2<=Qi;decide),fun t ht=>⟨t,_,rfl,SqT.of Zi,rfl,_,_,rfl,_,_,rfl,rfl,?_⟩⟩⟩
 generalize B:upd (upd H J _) t _=H1
 have S1:=((S.new hfl _).newE ht B).tail
 clear B
 refine ⟨_,rfl,_,rfl,p,_,many,_,rfl,S1.pull p,by omega,by omega,by omega,fun l H2 xs S2 hxl hxs hx2=>?_⟩
 refine ⟨l,rfl,⟨_,SqL.of (S2.get l)⟩,ZeP (xs:=xs.map V.str) (fun j σ H'=>∃ x4 x5 x6 x7 fs,σ=[some (.ref p),some (.int many),some (.str a26),some (.ref J),x4,x5,x6,x7]/\Sep ((J,Zv (fs.map V.str))::(l,Zv (xs.map V.str))::(p,Bx (n+20+j))::Δ) H'/\fs.length<=2 * j/\(∀ y∈fs,Yt y)/\(∀ y∈xs.take j,y∈fs)/\j<=xs.length)
  ⟨_,_,_,_,[],rfl,(S2.pull l).pull J,Qe _,(fun _ h=>nomatch h),(fun y h=>by simp at h),Qw _⟩ ?_ ?_ ?_⟩
 ·rintro j σ H' _ ⟨_,_,_,_,fs,_,S',_⟩;exact SqL.of (S'.get l)
 ·rintro j x σ H3 Y ⟨x4,x5,x6,x7,fs,rfl,S3,hfl2,hfs,hne,hj⟩
  have hjl:j < xs.length:=by have:=(Qg.mp Y).1;rwa [length_map] at this
  obtain ⟨nm,hnm,rfl⟩:=mem_map.mp (mem_of_getElem? Y)
  obtain ⟨⟨hn1,hn8,hnl⟩,hn2⟩:=hxs nm hnm
  obtain ⟨c0,hc0,hl0⟩:=WI (x:=nm) hnl (r:=0) (by decide) (by omega)
  obtain ⟨c1,hc1,hl1⟩:=WI (x:=nm) hnl (r:=1) (by decide) (by omega)
  obtain ⟨f0,f01,f02⟩:=ZeK hl0
  obtain ⟨f1,f11,f12⟩:=ZeK hl1
  obtain ⟨one,hone⟩:∃ z:Int,(c0:Int) - 97+2=z:=⟨_,rfl⟩
  obtain ⟨oth,hoth⟩:∃ z:Int,(c1:Int) - 97 - 1=z:=⟨_,rfl⟩
  refine ⟨_,rfl,rfl,_,rfl,nm,0,c0,rfl,rfl,Yy (show nm.length<=1000 by omega),hc0,a26,_,rfl,rfl,by omega,_,_,rfl,rfl,_,rfl,rfl,_,rfl,nm,1,c1,rfl,rfl,Yy (show nm.length<=1000 by omega),hc1,a26,_,rfl,rfl,by omega,_,_,rfl,rfl,.int one,.int oth,(by show [V.int (Txt.find a26 ⟨#[c0]⟩+2),V.int (Txt.find a26 ⟨#[c1]⟩ - 1)]=_;rw [f0,f1,hone,hoth]),?_⟩
  obtain ⟨d0,hd0,hdl0⟩:=WI (x:=a26) US (r:=one % 26) (by omega) (by rw [Xp];omega)
  obtain ⟨d1,hd1,hdl1⟩:=Zlu (x:=a26) US (r:=oth) (by rw [Xp];omega) (by rw [Xp];omega)
  have hsl:(Txt.slice nm (some 2) none).length+2=nm.length:=by
   rw [Yj,WN,Yj]
   have e3:HT.sIx nm.cps.toList.length 0 (some 2)=min 2 nm.cps.toList.length:=HT.sIx_nat _ _ 2
   have hh:2<=nm.cps.toList.length:=by rw [<- Yj];exact hn2
   rw [e3,HT.sIx_none,length_take,length_drop]
   omega
  refine ⟨_,rfl,_,rfl,_,_,rfl,rfl,(by show (0:Int) < 26;decide),a26,_,d0,rfl,rfl,by rw [Xp];decide,hd0,_,rfl,_,rfl,a26,oth,d1,rfl,rfl,by rw [Xp];decide,hd1,_,_,rfl,rfl,Yy (show _<=1000 by rw [Xc,Xc];decide),_,rfl,2,rfl,nm,rfl,Yy (show nm.length<=1000 by omega),_,_,rfl,rfl,Yy (show _<=1000 by rw [Ys,Xc,Xc];omega),?_⟩
  generalize htw:(⟨#[d0]⟩:Str)++(⟨#[d1]⟩:Str)++Txt.slice nm (some 2) none=tw
  have htk:Yt tw:=by
   rw [<- htw]
   refine ⟨?_,?_,Ul (Ul (Vy hdl0) (Vy hdl1)) (VH hnl)⟩<;>(rw [Ys,Ys,Xc,Xc];omega)
  refine ⟨_,rfl,.inl ⟨rfl,_,SqL.of (S3.get J)⟩,_,rfl,(by show 1<=Qi;decide),fun l1 hl1'=>⟨_,rfl,(by show 1<=Qi;decide),fun l2 hl2=>?_⟩⟩
  generalize B:upd (upd H3 l1 _) l2 _=H4
  have S4:=(S3.new hl1' _).newE hl2 B
  clear B
  refine ⟨_,rfl,_,_,rfl,rfl,_,rfl,Xy (fun c=>?w1) (fun c=>?w2)⟩
  case' w1=>refine ⟨_,rfl,_,_,rfl,rfl,_,rfl,Xy (fun c=>?w3) (fun c=>?w4)⟩
  case' w3 =>
   refine ⟨_,rfl,p,_,2,_,rfl,S4.pull p,by omega,by decide,by decide,fun r5 H5 b0 b1 Z=>⟨rfl,?_⟩⟩
   obtain ⟨b,hb⟩:∃ b:Bool,decide (V.int r5=V.int 0)=b:=⟨_,rfl⟩
  case' w4 =>
   have Z:=(S4.pull p).le (show n+20+j<=n+20+j+1 by omega)
   obtain ⟨b,hb⟩:∃ b:Bool,false=b:=⟨_,rfl⟩
  case' w2 =>
   have Z:=(S4.pull p).le (show n+20+j<=n+20+j+1 by omega)
   obtain ⟨b,hb⟩:∃ b:Bool,false=b:=⟨_,rfl⟩
  all_goals
   refine .inr ⟨b,congrArg (fun z=>[V.bl z]) hb,?_⟩
   obtain ⟨k0,k1,k2⟩:=Zln b tw
   refine ⟨l2,_,_,rfl,rfl,Z.get l2,by omega,by omega,Yy (show _<=1000 by show 1 * _<=1000;omega),fun l3 hl3=>?_⟩
   generalize B:upd _ l3 _=H6
   have S6:=Z.newE hl3 B
   clear B
   rw [k2] at S6
   have lb:(if b=true then [tw] else []).length<=1:=by cases b<;>simp
   refine ⟨l1,l3,_,_,rfl,rfl,S6.get l1,S6.get l3,Yy (show [V.str nm].length+((if b=true then [tw] else []).map V.str).length<=1000 by rw [length_map];show 1+_<=1000;omega),fun l4 hl4=>?_⟩
   generalize B:upd _ l4 _=H7
   have S7:=S6.newE hl4 B
   clear B
   refine ⟨J,l4,fs.map V.str,[V.str nm]++(if b=true then [tw] else []).map V.str,rfl,rfl,S7.get J,S7.get l4,Yy (show _<=1000 by rw [length_append,length_map,length_map];show _+(1+_)<=1000;omega),?_⟩
   have S8:=S7.put J (.lst (fs.map V.str++([.str nm]++(if b=true then [tw] else []).map V.str)))
   have e8:fs.map V.str++([.str nm]++(if b=true then [tw] else []).map V.str)=(fs++(nm::if b=true then [tw] else [])).map V.str:=by rw [map_append];rfl
   refine ⟨_,_,_,_,fs++(nm::if b=true then [tw] else []),rfl,?_,?_,fun y W=>?_,fun y W=>?_,hjl⟩
   ·rw [<- e8];exact ((((S8.drop l4).drop l3).drop l2).drop l1).pull p |>.pull l |>.pull J
   ·rw [length_append,length_cons];omega
   ·rcases mem_append.mp W with z | z
    ·exact hfs y z
    ·rcases mem_cons.mp z with z | z
     ·rw [z];exact ⟨hn1,hn8,hnl⟩
     ·cases b
      ·cases z
      ·rw [mem_singleton.mp z];exact htk
   ·rw [take_succ] at W
    have hxj:xs[j]?=some nm:=by
     rw [getElem?_map] at Y
     cases e:xs[j]? with
     | none=>rw [e] at Y;cases Y
     | some w=>rw [e] at Y;cases Y;rfl
    rw [hxj] at W
    rcases mem_append.mp W with z | z
    ·exact Tb _ (hne y z)
    ·rw [show y=nm from by simpa using z];exact mem_append_right _ mem_cons_self
 ·rintro σ H3 ⟨x4,x5,x6,x7,fs,rfl,S3,hfl2,hfs,hne,hj⟩
  rw [length_map] at S3 hfl2 hne
  have S4:=S3.drop l
  refine ⟨_,rfl,J,_,rfl,S4.get J,fun D hD=>?_⟩
  refine ZeC (K:=K) (a:=J) (xs:=fs.map V.str) (Yy (show _<=1000 by rw [length_map];omega)) S4 hD (fun i ys Δ'=>ys=(YO fs i).map V.str/\Δ'=(J,Zv (fs.map V.str))::(p,Bx (n+20+xs.length))::Δ) ⟨rfl,rfl⟩ ?_ ?_ ?_
  ·rintro i ys Δ' H' ⟨_,rfl⟩ S';exact SqL.of (S'.get J)
  ·rintro i x t' ys Δ' H' wa wb Y hyl ⟨rfl,rfl⟩ S'
   obtain ⟨y,W,rfl⟩:∃ y,fs[i]?=some y/\V.str y=x:=by
    rw [getElem?_map] at Y
    cases e:fs[i]? with
    | none=>rw [e] at Y;cases Y
    | some y=>rw [e] at Y;exact ⟨y,rfl,Qo Y⟩
   refine ⟨t',_,rfl,SqT.of (S'.get t'),rfl,_,_,rfl,_,_,rfl,rfl,⟨_,_,rfl⟩,?_⟩
   refine ⟨_,rfl,_,rfl,_,rfl,_,rfl,J,_,rfl,SqL.of (S'.get J),fun sl hsl=>?_⟩
   generalize B:upd _ sl _=H5
   have Z:=S'.newE hsl B
   clear B
   rw [ZeF,<- List.map_take] at Z
   refine ⟨sl,_,rfl,.inl (SqL.of (Z.get sl)),rfl,ZjF _,_,rfl,?_⟩
   rw [Zmy]
   have S6:=(Z.drop sl).drop t'
   have ef:YO fs (i+1)=if y∈fs.take i then YO fs i else YO fs i++[y]:=by
    show (match fs[i]? with | some x=>if x∈fs.take i then YO fs i else YO fs i++[x] | none=>YO fs i)=_
    rw [W]
   by_cases hm:y∈fs.take i
   ·rw [decide_eq_true hm]
    rw [if_pos hm] at ef
    exact ZN ⟨_,⟨by rw [ef],rfl⟩,S6⟩
   ·rw [decide_eq_false hm]
    rw [if_neg hm] at ef
    exact Yg ⟨_,rfl,_,⟨by rw [ef,map_append];rfl,rfl⟩,S6⟩
  ·rintro ys Δ' H5 ⟨rfl,rfl⟩ hyl Z
   rw [length_map] at Z hyl
   refine ⟨_,rfl,many,rfl,D,_,rfl,SqL.of (Z.get D),fun r hr'=>?_⟩
   generalize B:upd _ r _=H6
   have S6:=((Z.newE hr' B).drop D).drop J
   clear B
   rw [show many=((many.toNat:Nat):Int) by omega,ZeF,<- List.map_take] at S6
   have hin:∀ y∈xs,y∈fs:=fun y W=>hne y (by rw [take_of_length_le (Qe _)];exact W)
   have hfne:fs≠[]:=fun z=>by
    obtain ⟨y,W⟩:=Sj xs (length_pos_iff.mp (by omega))
    have:=hin y W
    rw [z] at this;cases this
   have hall:fs.take fs.length=fs:=take_of_length_le (Qe _)
   have hf1:YO fs fs.length≠[]:=fun z=>by
    obtain ⟨y,W⟩:=Sj _ hfne
    have:=(Xt (xs:=fs) fs.length (x:=y)).mpr (by rw [hall];exact W)
    rw [z] at this;cases this
   refine q r H6 _ ((S6.pull p).le (by omega) |>.pull r) ?_ ?_ (List.Sublist.nodup (Ss _ _) (UE _)) (fun y W=>hfs y ?_) fun h2=>?_
   ·rw [length_take];have:=length_pos_iff.mpr hf1;omega
   ·rw [length_take];omega
   ·have:=(Xt fs.length).mp (ZfP W)
    rw [hall] at this;exact this
   ·obtain ⟨u,v,hu,hv,huv⟩:=hx2 h2
    have m:∀ y∈xs,y∈YO fs fs.length:=fun y W=>(Xt (xs:=fs) fs.length (x:=y)).mpr (by rw [hall];exact hin y W)
    have:=ZnB (m u hu) (m v hv) huv
    rw [length_take];omega
end
section
variable {P:Ql}{w:Qs}{K:Qa}{mg:Str->Option Qb}{base:Heap}
abbrev nVs:List Str:=["_law_box_here"]
abbrev Zlf:List Str:=["_law_box_here"]
theorem scVs:Zp nVs Zlf (Zk s_l_values):={}
theorem ZiY (F:Fun K "_law_values" "_law_values" s_l_values f fd)(T:Yl mg)(DV:Def P w K mg base 2 "_law_value" ["_law_box_here"] VJ):FnOk P w K mg base ZJ 3 f fd Zlf Zbr:=by
 refine F.ok scVs (fun cdv A outer s H vs Q E hr h=>?_)
 obtain ⟨p,n,Δ,rfl,S,hn,q⟩:=h
 refine' ⟨?t,?h,?r⟩
 case h =>
  conv=>arg 2;whnf
  with_reducible refine' (Zg ?h1)
  case h1=>exact Zn (Zt Zfd (WE (CompOk.of nVs s_l_values rfl rfl (by decide +kernel)) rfl (Xj rfl T.range (Zb Zd Za))  (fun _ _ _ _ _=>ZA DV hr (Zb (pv 0) Za))) (Yh (Zb Zd (Zb ZU Za))))
 try dsimp only [ZR,Cx.nox]
 refine ⟨3,rfl,by decide,by decide,fun D hD=>?_⟩
 refine UK (by decide) S hD (fun i ys B=>(∀ u∈ys,IsVal u)/\B=(p,Bx (n+50 * i))::Δ) ⟨(fun _ h=>nomatch h),rfl⟩ ?_ ?_
 ·rintro i ys B H' hi hl ⟨hy,rfl⟩ S'
  have hi3:i < 3:=hi
  refine ⟨_,rfl,p,_,_,rfl,S'.pull p,by omega,fun v H2 hv Z=>⟨_,⟨fun u Y=>?_,rfl⟩,(Z.le (by omega)).pull D⟩⟩
  rcases mem_append.mp Y with z | z
  ·exact hy u z
  ·rw [mem_singleton.mp z];exact hv
 ·rintro ys B H2 ⟨hy,rfl⟩ hl Z
  refine ⟨(by show 2<=Qi;decide),fun W hl1=>?_⟩
  generalize J:upd _ W _=H3
  have S3:=Z.newE hl1 J
  clear J
  have hl3:ys.length=3:=hl
  refine ⟨D,W,_,_,rfl,rfl,S3.get D,S3.get W,Yy (show ys.length+2<=1000 by omega),fun l2 hl2=>?_⟩
  generalize J:upd _ l2 _=H4
  have S4:=S3.newE hl2 J
  clear J
  refine q l2 H4 _ ((((S4.drop W).drop D).pull p).le (show n+50 * 3<=n+200 by omega) |>.pull l2) (by rw [length_append];show _+2=5;omega) fun u Y=>?_
  rcases mem_append.mp Y with z | z
  ·exact hy u z
  ·have all:([.int 1,.str "1"]:List V).all Zcw=true:=by decide +kernel
   exact Vu (all_eq_true.mp all u z)
abbrev nSp:List Str:=["_law_box_here","_law_names_here","_law_values_here","_law_name"]
abbrev ZhE:List Str:=["_law_box_here","_law_names_here","_law_values_here"]
theorem scSp:Zp nSp ZhE (Zk s_l_step):={}
theorem ZmZ (F:Fun K "_law_step" "_law_step" s_l_step f fd)(T:Yl mg)(DT:DTk P w K mg base 1):FnOk P w K mg base ZJ 2 f fd ZhE Zcs:=by
 refine F.ok scSp (fun cdv A outer s H vs Q E hr h=>?_)
 obtain ⟨p,B,D,n,NS,us,Δ,rfl,S,W,hus,hNl,hul,huv,hn,q⟩:=h
 have z:=hr
 have l1:=length_pos_iff.mpr W
 have l2:=length_pos_iff.mpr hus
 refine' ⟨?t,?h,?r⟩
 case h =>
  conv=>arg 2;whnf
  with_reducible refine' (Ze ?h1 (Ze (Yi ?h2 (Zg ?h3) ZV) (Zg ?h4)))
  case h1=>exact Zx (i:=3) scSp.nd rfl (Qy rfl) (Zo ZD (pv 1) (ZA DT z (Zb (pv 0) (Zb (Zz ZL rfl T.len QM (Zb (pv 1) Za)) Za))) (fun _ _=>rfl))
  case h2=>exact ZP Yo (ZA DT z (Zb (pv 0) (Zb Zd Za))) Zd (ZH _)
  case h3=>exact Zn (YQ (Zb ZU (Zb (pv 3) Za)))
  case h4=>exact Zn (YQ (Zb ZU (Zb (pv 3) (Zb (Zo ZD (pv 2) (ZA DT z (Zb (pv 0) (Zb (Zz ZL rfl T.len QM (Zb (pv 2) Za)) Za))) (fun _ _=>rfl)) Za))))
 try dsimp only [ZR,Cx.nox]
 refine zs3 ?_
 intro zD zS zN2 zN1
 refine ⟨_,rfl,_,rfl,_,rfl,B,_,rfl,.inl (SqL.of (S.get B)),p,_,_,_,rfl,S,by omega,(by rw [length_map];omega),(by rw [length_map];omega),fun r1 H1 a0 a1 S1=>?_⟩
 rw [length_map] at a1
 obtain ⟨x,hx,Z⟩:=ZiP (f:=V.str) a0 a1
 refine ⟨B,_,_,_,rfl,rfl,SqL.of (S1.get B),Z,?_⟩
 refine ⟨_,rfl,p,_,4,_,rfl,S1,by omega,by decide,by decide,fun r2 H2 b0 b1 J=>⟨rfl,_,rfl,Xy (fun c=>?_) (fun c=>?_)⟩⟩
 ·refine ⟨_,rfl,(by show 2<=Qi;decide),fun t ht=>?_⟩
  exact q t _ (.clr x) hx ((J.new ht (.tup [.str "clear",.str x])).pull p |>.le (show n+2<=n+3 by omega) |>.pull t)
 ·refine ⟨_,rfl,_,rfl,_,rfl,_,rfl,D,_,rfl,.inl (SqL.of (J.get D)),p,_,_,_,rfl,J,by omega,by omega,by omega,fun r3 H3 d0 d1 S3=>?_⟩
  obtain ⟨u,hu,Y⟩:=ZcM (xs:=us) d0 d1
  refine ⟨D,_,_,_,rfl,rfl,SqL.of (S3.get D),Y,(by show 3<=Qi;decide),fun t ht=>?_⟩
  exact q t _ (.set x u) ⟨hx,huv u hu⟩ (S3.new ht (.tup [.str "set",.str x,u]))
abbrev nFr:List Str:=["_law_box_here","_law_stops","_law_way_here"]
abbrev ZkX:List Str:=["_law_box_here","_law_stops"]
theorem scFr:Zp nFr ZkX (Zk s_l_from):={}
theorem ZmM (F:Fun K "_law_from" "_law_from" s_l_from f fd)(T:Yl mg)(Z:DTk P w K mg base 1):FnOk P w K mg base ZJ 2 f fd ZkX Zfv:=by
 refine F.ok scFr (fun cdv A outer s H vs Q E hr h=>?_)
 obtain ⟨p,D,n,k,R,Δ,rfl,S,Y,hk1,hk2,hn,q⟩:=h
 have B:=hr
 refine' ⟨?t,?h,?r⟩
 case h =>
  conv=>arg 2;whnf
  with_reducible refine' (Ze ?h1 (Ze (Yi ?h2 (Zg ?h3) ZV) (Ze (Yi ?h4 (Zg ?h5) ZV) (Zg ?h6))))
  case h1=>exact Zx (i:=2) scFr.nd rfl (Qy rfl) (ZA Z B (Zb (pv 0) (Zb Zd Za)))
  case h2=>exact ZP ZaC (pv 2) Zd (ZH _)
  case h3=>exact Zn (Zt YW (Zz ZL rfl T.len QM (Zb (pv 1) Za)) Zd)
  case h4=>exact ZP Yo (pv 2) Zd (ZH _)
  case h5=>exact Zn (Zz (Zij rfl) rfl T.max (by decide +kernel) (Zb Zd (Zb (Zt YW (Zt YW (Zz ZL rfl T.len QM (Zb (pv 1) Za)) Zd) (ZA Z B (Zb (pv 0) (Zb Zd Za)))) Za)))
  case h6=>exact Zn (ZA Z B (Zb (pv 0) (Zb (Zz ZL rfl T.len QM (Zb (pv 1) Za)) Za)))
 try dsimp only [ZR,Cx.nox]
 refine zs4 ?_
 intro zD zS zN3 zN2 zN1
 refine ⟨_,rfl,p,_,4,_,rfl,S,by omega,by decide,by decide,fun r1 H1 a0 a1 J=>⟨_,rfl,_,_,rfl,rfl,_,rfl,Xy (fun c=>?_) (fun c=>?_)⟩⟩
 ·obtain ⟨xs,ex,hl⟩:=J.isl D Y
  refine ⟨_,rfl,D,_,rfl,.inl (SqL.of ex),_,_,rfl,rfl,?_⟩
  have:=q (k - 1) H1 (by omega) (J.le (by omega))
  rw [show ((k - 1:Nat):Int)=((xs.length:Nat):Int) - 1 by omega] at this
  exact this
 refine ⟨_,rfl,rfl,_,rfl,Xy (fun c=>?_) (fun c=>?_)⟩
 ·obtain ⟨xs,ex,hl⟩:=J.isl D Y
  refine ⟨_,rfl,D,_,rfl,.inl (SqL.of ex),_,_,rfl,rfl,_,rfl,p,_,6,_,rfl,J,by omega,by decide,by decide,fun z H2 b0 b1 W=>⟨_,_,rfl,rfl,_,_,rfl,?_⟩⟩
  by_cases hc:(0:Int) < (xs.length:Int) - 1 - z
  ·rw [if_pos hc]
   have:=q ((xs.length:Int) - 1 - z).toNat H2 (by omega) (W.le (by omega))
   rw [show ((((xs.length:Int) - 1 - z).toNat:Nat):Int)=((xs.length:Nat):Int) - 1 - z by omega] at this
   exact this
  ·rw [if_neg hc];exact q 0 H2 (by omega) (W.le (by omega))
 ·obtain ⟨xs,ex,hl⟩:=J.isl D Y
  refine ⟨_,rfl,_,rfl,D,_,rfl,.inl (SqL.of ex),p,_,_,_,rfl,J,by omega,by omega,by omega,fun z H2 b0 b1 W=>?_⟩
  have:=q z.toNat H2 (by omega) (W.le (by omega))
  rw [show ((z.toNat:Nat):Int)=z by omega] at this
  exact this
end
def XC (NS:List Str)(pls:List ZE):Prop:=∀ q∈pls,q.st.ok NS
def mkB:Nat->Int
 | 0=>0
 | i+1=>mkB i+((i:Int)+1) * 26
theorem ZiR {l:List Nat}:∀ i,i<=l.length->l.all WD=true->0<=XY l i/\XY l i<=mkB i
 | 0,_,_=>⟨Int.le_refl _,Int.le_refl _⟩
 | i+1,hi,ha=>by
  obtain ⟨J,h1⟩:=ZiR i (by omega) ha
  have z:i < l.length:=hi
  have B:=all_eq_true.mp ha _ (QS z)
  have D:l.getD i 0=l[i]:=by rw [getD_eq_getElem?_getD,getElem?_eq_getElem z];rfl
  unfold WD at B
  simp only [QO,decide_eq_true_eq] at B
  show 0<=XY l i+((i:Int)+1) * (((l.getD i 0:Nat):Int) - 97+1)/\XY l i+((i:Int)+1) * (((l.getD i 0:Nat):Int) - 97+1)<=mkB i+((i:Int)+1) * 26
  rw [D]
  have p0:(0:Int)<=((i:Int)+1) * (((l[i]:Nat):Int) - 97+1):=Int.mul_nonneg (by omega) (by omega)
  have p1:((i:Int)+1) * (((l[i]:Nat):Int) - 97+1)<=((i:Int)+1) * 26:=Int.mul_le_mul_of_nonneg_left (by omega) (by omega)
  omega
theorem ZpB (Y:NS.length<=60)(h:∀ x∈NS,Yt x):ZZ NS:=by
 have b:∀ x∈NS,0<=Zh x/\Zh x < 1024:=fun x z=>by
  obtain ⟨h1,J,D⟩:=h x z
  obtain ⟨W,Z⟩:=ZiR (l:=x.cps.toList) x.length (by rw [<- Yj];exact Qe _) D
  have B:∀ i,i<=8->mkB i < 1024:=by decide
  have:=B x.length J
  exact ⟨W,by show XY _ _ < _;omega⟩
 exact ⟨by omega,fun x z=>by have:=(h x z).2.1;omega,fun x z=>(b x z).1,fun x z=>(b x z).2⟩
theorem ZhI {NS:List Str}:RInv NS [] [.bare] [(QD 0,.bl true)]:=by
 refine ⟨fun k q e=>by simp at e,fun k t e=>?_,fun k q F t e=>by simp at e,fun k F t e1 B=>?_,fun k q F e=>by simp at e,fun _ h=>nomatch h⟩
 ·cases k with
  | zero=>cases (show some 0=some t from e);exact .inl (.inl rfl)
  | succ k=>simp at e
 cases k with
 | zero =>
  cases (show some (fun _=>none)=some F from e1)
  cases (show some 0=some t from B)
  exact ⟨rfl,.inl (.inl ⟨rfl,rfl,fun _ _ _=>rfl⟩),fun x u z=>by cases z⟩
 | succ k=>simp [envs] at e1
instance {pls:List ZE}:IsLst (StopL pls) (pls.length+1):=⟨fun ⟨as,e,hl,_⟩=>⟨_,e,by rw [length_map];exact hl⟩⟩
theorem ZhU (h:XC NS pls)(B:q.st.ok NS):XC NS (pls++[q]):=fun z hz=>by
 rcases mem_append.mp hz with y | y
 ·exact h z y
 ·rw [mem_singleton.mp y];exact B
theorem ZeX (h:Yt x):IsVal (.str x):=by
 refine ⟨by have:=h.2.1;omega,all_eq_true.mpr fun c z=>?_⟩
 have:=all_eq_true.mp h.2.2 c z
 unfold WD at this;unfold sgn
 simp only [QO,decide_eq_true_eq] at this ⊢
 omega
theorem Zjy [U:Up R](S:Sep ((a,R)::Δ) H)(e:H b=some o)(m:YI o=false):Sep ((a,fun a h=>R a h/\h b=some o)::Δ) H:=by
 obtain ⟨h,l,r,S⟩:=S
 refine ⟨fun c=>match h c with | some u=>some u | none=>one b o c,fun c u z=>?_,⟨U.up r (fun c u z=>by simp only [z]),?_⟩,S.mono fun c u z=>?_⟩
 ·cases q:h c with
  | some v=>simp only [q] at z;cases z;exact l _ _ q
  | none=>simp only [q] at z;obtain ⟨rfl,rfl⟩:=one_some.mp z;exact e
 ·cases q:h b with
  | some v=>have:=l _ _ q;rw [e] at this;cases this;simp only [q]
  | none=>simp only [q];exact one_some.mpr ⟨rfl,rfl⟩
 ·obtain ⟨B,D⟩:=cut_some.mp z
  refine cut_some.mpr ⟨B,fun v y=>?_⟩
  cases q:h c with
  | some x=>simp only [q] at y;cases y;exact D _ q
  | none=>simp only [q] at y;obtain ⟨rfl,rfl⟩:=one_some.mp y;exact m
theorem ZnR {z:Type}{xs:List z}(h:xs≠[]):∃ x∈xs,Xd xs (-1)=some x:=by
 have B:=length_pos_iff.mpr h
 refine ⟨xs[xs.length - 1],QS _,?_⟩
 have hi:WR xs.length (-1)=some (xs.length - 1):=by
  unfold WR
  rw [if_neg (by decide),if_pos (by omega)]
  exact congrArg some (by omega)
 unfold Xd
 rw [hi]
 exact getElem?_eq_getElem (by omega)
def ScR (K:Qa)(ns:List Int):YB:=fun a h=>SqL K h a (ns.map V.int)
theorem Zqc (h:SqL K H a xs)(s:Same H H'):SqL K H' a xs:=by
 rcases h with (h | ⟨o,h⟩) | h
 ·exact .inl (.inl (s _ _ h))
 ·exact .inl (.inr ⟨o,s _ _ h⟩)
 ·exact .inr h
instance {K:Qa} {ns:List Int}:Up (ScR K ns):=⟨fun h s=>Zqc h s⟩
theorem Zgy (Y:LamAt H Pl D q)(S:Sep Δ (WO H (some_of H [Pl]))):Sep ((Pl,Zeq D q)::Δ) H:=by
 refine ⟨some_of H [Pl],WJ,?_,S⟩
 have B:some_of H [Pl] Pl=H Pl:=Wk (by simp)
 rcases Y with z | ⟨c,J,W⟩
 ·exact .inl (by rw [B];exact z)
 ·exact .inr ⟨c,by rw [B];exact J,Uh W rfl⟩
theorem ZbD (e:H b=some o)(h:b≠Pl):WO H (some_of H [Pl]) b=some o:=cut_some.mpr ⟨e,fun u z=>by
 cases m:YI u with
 | false=>rfl
 | true=>exact absurd (mem_singleton.mp (Wf z m)) h⟩
theorem ZmD (Y:LamAt H Pl Z r)(hL:LamAt H Pp J q)(h:Pl≠Pp):LamAt (WO H (some_of H [Pl])) Pp J q:=by
 obtain ⟨tb,D⟩:=Y.tbl
 rcases hL with z | ⟨c,W,B⟩
 ·exact .inl (ZbD z h.symm)
 ·exact .inr ⟨c,ZbD W h.symm,ZbD B (fun y=>by rw [y,D] at B;cases B)⟩
theorem ZgC (D:LamAt H Pl J r)(W:SqL K H a xs):SqL K (WO H (some_of H [Pl])) a xs:=by
 obtain ⟨tb,B⟩:=D.tbl
 rcases W.obj with z | ⟨o,e,Y,z⟩
 ·exact z _
 ·refine z _ (ZbD e fun y=>?_)
  rw [y,B] at e;cases e;exact absurd rfl (Y _)
theorem Zjz (J:SqL K H a (ns.map V.int))(z:LamAt H Pl YV XV)(D:LamAt H Pp XQ Wv)(B:Pl≠Pp):Sep [(Pl,YG),(Pp,Yx),(a,ScR K ns)] H:=by
 have h1:=ZmD z D B
 exact Zgy z (Zgy h1 (show Sep [(a,ScR K ns)] _ from ⟨_,fun b o e=>e,ZgC h1 (ZgC z J),trivial⟩))
theorem ZiL (h:(ps.map (·.1)).Nodup):lk ps y≠none↔y∈ps.map (·.1):=by
 constructor
 ·intro z
  cases e:lk ps y with
  | none=>exact absurd e z
  | some v=>exact mem_map.mpr ⟨(y,v),(YC h).mp e,rfl⟩
 ·intro z e
  obtain ⟨p,hp,rfl⟩:=mem_map.mp z
  rw [(YC h).mpr (show (p.1,p.2)∈ps from hp)] at e;cases e
theorem Zlr {K:Qa}{CR CS r:Addr}{pls:List ZE}{nds:List Nd}{z:List (Zj×V)}{Δ:Rs}{H:Hp}(S:Sep ((r,XB K CR CS pls nds z)::Δ) H):∃ st,Sep ((r,Xn K CR CS pls nds z st)::Δ) H:=by
 obtain ⟨h,l,⟨st,D,J,lt,B,G⟩,S⟩:=S
 exact ⟨st,h,l,⟨D,J,lt,B,G⟩,S⟩
section
variable {P:Ql}{w:Qs}{K:Qa}{mg:Str->Option Qb}{base:Heap}{CR CS Pl Pp:Addr}
inductive Zlz (K:Qa)(CR CS Pp:Addr)(vs:List V)(H:Hp)(Q:VK)(w_3:XK):Prop
 | mk (NS:List Str) (r sl:Addr) (pls:List ZE) (nds:List Nd) (tabs:List (Zj×V)) (m:Nat) (Δ:Rs):vs=[.ref r,.ref sl]->ZZ NS->NS.length<=40->(∀ x∈NS,Yt x)->Sep ((r,XB K CR CS pls nds tabs)::(Pp,Yx)::(sl,StopL pls)::Δ) H->RInv NS pls nds tabs->XC NS pls->pls.length=m+1->pls.length<=500->(∀ H',Sep ((r,XB K CR CS pls nds tabs)::(Pp,Yx)::(sl,StopL pls)::Δ) H'->Q (.bl true) H')->Zlz K CR CS Pp vs H Q w_3
abbrev nLr:List Str:=["_law_roads","_law_stops","_law_place","_law_before","_law_behind","_law_step_here","_law_forks","_law_is_leaf_there","_law_due"]
abbrev ZkZ:List Str:=["_law_roads","_law_stops"]
theorem scLr:Zp nLr ZkZ (Zk s_l_last_right):={}
theorem ZpE (F:Fun K "_law_last_right" "_law_last_right" s_l_last_right f fd)(T:Yl mg)(TR:Xo K CR)(DAl:Def P w K mg base 11 "_law_all" Zhv Zeg)(DLW:Def P w K mg base 11 "_law_way" Zhu Zly)(DLA:Def P w K mg base 11 "_law_alike" ZdZ Zej)(DR_cost:DefM P w K mg base 11 CR "cost" Zec (Zco K CR CS))(Z:DefM P w K mg base 11 CR "all_at" Zeb (Zei K CR CS Pp))(DSm:Def P w K mg base 11 "_law_same" ZhD ZhS):FnOk P w K mg base ZJ 12 f fd ZkZ (Zlz K CR CS Pp):=by
 refine F.ok scLr (fun cdv A outer s H vs Q E hr h=>?_)
 obtain ⟨NS,r,sl,pls,nds,tabs,m,Δ,rfl,N,hNl,hN,S,I,hok,hm,hpl,q⟩:=h
 refine' ⟨?t,?h,?r⟩
 case h =>
  conv=>arg 2;whnf
  with_reducible refine' (Ze ?h1 (Ze ?h2 (Ze ?h3 (Ze ?h4 (Ze (Yi ?h5 (Zg ?h6) ZV) (Zg ?h7))))))
  case h1=>exact Zx (i:=2) scLr.nd rfl (Qy rfl) (Zt YW (Zz ZL rfl T.len QM (Zb (pv 1) Za)) Zd)
  case h2=>exact Zgu (i:=3) (j:=4) (k:=5) rfl scLr.nd rfl rfl rfl (by decide) (by decide) (by decide) rfl rfl rfl (Zb (ZA DAl hr (Zb (pv 1) (Zb (Zo ZO (Zo ZD (pv 1) (pv 2) (fun _ _=>rfl)) Zd (fun _ _=>rfl)) Za))) (Zb (ZA DAl hr (Zb (pv 1) (Zb (pv 2) Za))) (Zb (Zo ZO (Zo ZD (pv 1) (pv 2) (fun _ _=>rfl)) Zd (fun _ _=>rfl)) Za))) rfl
  case h3=>exact XH (ZA DLW hr (Zb (Yk (UV rfl) rfl T.list (by decide +kernel) (Zb (pv 4) Za)) (Zb (Zo ZO (pv 5) Zd (fun _ _=>rfl)) Za))) (Ws rfl (Yb (ZI (i:=6) scLr.nd rfl (Qy rfl)) (Yb (ZI (i:=7) scLr.nd rfl (Qy rfl)) XS)))
  case h4=>exact Zx (i:=8) scLr.nd rfl (Qy rfl) (Zt Yu (pv 6) (Yk VU rfl T.int (by decide +kernel) (Zb (pv 7) Za)))
  case h5=>exact Wu (ZA DLA hr (Zb (Zbl (Ua hr) (pv 3) (Zo ZO (pv 5) Zd (fun _ _=>rfl)) ⟨rfl,rfl,rfl,rfl⟩) (Zb (Zbl (Ua hr) (pv 4) (Zo ZO (pv 5) Zd (fun _ _=>rfl)) ⟨rfl,rfl,rfl,rfl⟩) Za)))
  case h6=>exact Zx (i:=8) scLr.nd rfl (Qy rfl) Zd
  case h7=>exact Zn (WU (YK Yo (ZT DR_cost TR.cl hr (pv 0) (Zb (pv 2) Za)) (pv 8) (ZH _)) (Va (ZA DSm hr (Zb (ZT Z TR.cl hr (pv 0) (Zb (pv 2) Za)) (Zb (pv 4) Za)))))
 try dsimp only [ZR,Cx.nox]
 refine zs6 ?_
 intro zD zS zN5 zN4 zN3 zN2 zN1
 obtain ⟨ys,ey,hyl⟩:=S.isl sl (inferInstance:IsLst (StopL pls) (pls.length+1))
 refine ⟨_,rfl,sl,_,rfl,.inl (SqL.of ey),_,_,rfl,rfl,?_⟩
 rw [show ((ys.length:Nat):Int) - 1=((m+1:Nat):Int) by omega]
 have J:=getElem?_eq_getElem (show m < pls.length by omega)
 generalize pls[m]'(show m < pls.length by omega)=B at J
 have hsok:=hok B (mem_of_getElem? J)
 have hqk:=I.wf m B J
 have hk:m+1<=pls.length:=by omega
 obtain ⟨xs,a,x,z,esl,hxa,ea,ex,⟨b,s9,rfl,hs9,eb⟩,_⟩:=StopL.at (S.get sl) hk
 rw [getElem?_map,J] at hs9
 cases (show some B.st=some s9 from hs9)
 have ex2:x=.int (B.ah:Int):=by
  rw [ex];show V.int (((pls.getD m ⟨0,.clr "",0,0⟩).ah:Nat):Int)=_
  rw [getD_eq_getElem?_getD,J];rfl
 subst ex2
 refine ⟨_,rfl,_,rfl,_,rfl,sl,_,_,_,rfl,rfl,SqL.of esl,Zr hxa,a,_,_,_,rfl,rfl,SqT.of ea,Zr (j:=0) rfl,sl,pls,B.ah,NS,_,rfl,S.pull sl,I.wf,by omega,hpl,hok,by omega,fun d1 H1 W S1 hhB hFB=>?_⟩
 refine ⟨_,rfl,_,rfl,sl,pls,m+1,NS,_,rfl,S1.pull sl,I.wf,hk,hpl,hok,by omega,fun d2 H2 D S2 Y hFA=>?_⟩
 obtain ⟨xs2,a2,x2,z2,esl2,hxa2,ea2,_,⟨b2,s92,rfl,hs92,eb2⟩,_⟩:=StopL.at (S2.get sl) hk
 rw [getElem?_map,J] at hs92
 cases (show some B.st=some s92 from hs92)
 refine ⟨_,rfl,_,rfl,sl,_,_,_,rfl,rfl,SqL.of esl2,Zr hxa2,a2,_,_,_,rfl,rfl,SqT.of ea2,Zr (j:=1) rfl,?_⟩
 dsimp only [Xr]
 refine ⟨_,_,_,rfl,?_⟩
 have hap:lk D=B.st.ap (lk W):=by
  have:=Zir I.wf J hFB
  rw [hFA] at this;exact Qo this
 have hco:=I.co m B _ J hFB
 have hcoN:coN pls (m+1)=B.co:=by
  show (pls.getD m ⟨0,.clr "",0,0⟩).co=_
  rw [getD_eq_getElem?_getD,J];rfl
 have e1at:Xd B.st.vs 1=some (.str B.st.nm):=by cases B.st<;>rfl
 have hnm:B.st.nm∈NS:=by cases e:B.st with
  | set x v=>rw [e] at hsok;exact hsok.1
  | clr x=>rw [e] at hsok;exact hsok
 have S3:=S2.imm eb2 rfl
 clear S S1 S2 esl esl2 ea ea2 eb hxa hxa2
 have hlen:(D.map (·.1)).length<=50:=by rw [length_map];have:=Y.few;omega
 have hkn:∀ y∈D.map (·.1),y∈NS:=fun y hy=>by obtain ⟨p,hp,rfl⟩:=mem_map.mp hy;exact (Y.2 p hp).1
 have seen:∀ {l:List Int},l.Nodup->(∀ m,m∈l↔m∈(D.map (·.1)).map Zh)->Zar NS (B.st.ap (lk W)) 0 0 l:=fun {l} h1 h2=>by
  refine ⟨h1,fun m=>?_⟩
  rw [h2 m,mem_map,<- hap]
  constructor
  ·rintro ⟨y,hy,e⟩
   exact ⟨y,hkn y hy,(ZiL Y.1).mpr hy,e,by rw [Ja,Ju]⟩
  ·rintro ⟨y,_,h3,e,_⟩
   exact ⟨y,(ZiL Y.1).mp h3,e⟩
 refine ⟨_,rfl,d2,_,rfl,S3.get d2,fun nl hnl=>?_⟩
 generalize hE:upd H2 nl _=H3
 have S4:=S3.newE hnl hE
 clear hE
 rw [show (D.map kP).map (fun p=>kV p.1)=(D.map (·.1)).map V.str by rw [map_map,map_map];rfl] at S4
 refine ⟨_,rfl,b2,_,_,_,rfl,rfl,SqT.of (S4.get b2),e1at,?_⟩
 dsimp only [Xr]
 refine ⟨nl,D.map (·.1),B.st.nm,_,rfl,S4,hlen,fun y hy=>hN y (hkn y hy),hN _ hnm,fun t H4 l hl1 hl2 et S5=>?_⟩
 refine ⟨t,_,rfl,SqT.of et,rfl,_,_,rfl,_,_,rfl,rfl,?_⟩
 refine ⟨_,rfl,_,rfl,.inr ⟨_,rfl,_,_,rfl,rfl,?_⟩⟩
 clear S3 S4
 have hsame:decide ((ZG (W.map kP) (QK B.st.nm)).getD V.non=(ZG (D.map kP) (QK B.st.nm)).getD V.non)=decide (lk W B.st.nm=lk D B.st.nm):=by
  have vl:∀ {ps:List (Str×V)},HeldOk NS ps->∀ u,lk ps B.st.nm=some u->u≠.non:=fun h u e z=>by
   have h9:=(h.2 _ ((YC h.1).mp e)).2
   rw [show u=V.non from z] at h9;exact h9.elim
  rw [decide_eq_decide]
  show (lk W B.st.nm).getD V.non=(lk D B.st.nm).getD V.non↔_
  constructor
  ·intro z
   cases e1:lk W B.st.nm with
   | none =>
    rw [e1] at z
    cases e2:lk D B.st.nm with
    | none=>rfl
    | some v=>rw [e2] at z;exact absurd z.symm (vl Y _ e2)
   | some u =>
    rw [e1] at z
    cases e2:lk D B.st.nm with
    | none=>rw [e2] at z;exact absurd z (vl hhB _ e1)
    | some v=>rw [e2] at z;exact congrArg some z
  ·intro z;rw [z]
 have ed1:H4 d1=some (.dK (W.map kP)):=S5.get d1
 have ed2:H4 d2=some (.dK (D.map kP)):=S5.get d2
 have eb5:=S5.get b2
 refine ⟨_,rfl,d1,rfl,.inl ⟨_,.inl ed1⟩,_,rfl,b2,_,_,_,rfl,rfl,SqT.of eb5,e1at,_,DGet.k (k:=QK B.st.nm) ed1,?_⟩
 refine ⟨_,rfl,d2,rfl,.inl ⟨_,.inl ed2⟩,_,rfl,b2,_,_,_,rfl,rfl,SqT.of eb5,e1at,_,DGet.k (k:=QK B.st.nm) ed2,?_⟩
 refine ⟨_,_,rfl,hhB.nv _,Y.nv _,_,rfl,?_⟩
 rw [hsame]
 have rest:∀ v:Int,v=(B.co:Int)->zN5 [some (.ref r),some (.ref sl),some (.int ((m+1:Nat):Int)),some (.ref d1),some (.ref d2),some (.ref b2),some (.int ((XG (Zh B.st.nm) 5 0 l).1:Int)),some (.bl (decide ((XG (Zh B.st.nm) 5 0 l).2=[Zh B.st.nm]))),some (.int v)] H4:=by
  rintro v rfl
  obtain ⟨st,S6⟩:=Zlr (S5.pull r)
  obtain ⟨la6,ls6,lt6,lc6,Sr⟩:=id (S6.get r)
  obtain ⟨dxr,obr⟩:=Sr.get r
  refine ⟨_,rfl,r,dxr,_,rfl,obr,Yq (by decide +kernel),_,rfl,r,pls,nds,tabs,m+1,rfl,⟨st,S6.get r⟩,hk,?_⟩
  rw [hcoN]
  refine ⟨_,rfl,rfl,_,rfl,?_⟩
  rw [decide_eq_true (rfl:V.int (B.co:Int)=V.int (B.co:Int))]
  refine Yg ⟨_,rfl,r,dxr,_,rfl,obr,Yq (by decide +kernel),_,rfl,NS,r,st,pls,nds,tabs,m+1,lk D,_,rfl,N,(S6.pull Pp).pull r,I,hk,hFA,fun fl H6 qs S7 hqs hsr=>?_⟩
  refine ⟨_,rfl,?_⟩
  dsimp only [Xr]
  refine ⟨fl,d2,NS,D,qs,rfl,hN,by omega,S7.get fl,S7.get d2,Y,hqs,hsr,fun H7 s7=>?_⟩
  have S8:=(S7.mono s7).say r (XB K CR CS pls nds tabs) fun h ⟨la,ls,lt,lc,G⟩=>⟨st,la,ls,lt,lc,G⟩
  exact q H7 ((((((((S8.drop fl).drop nl).drop b2).drop d2).drop d1).pull sl).pull Pp).pull r)
 refine Xy (fun c2=>rest 0 ?_) (fun c2=>rest _ ?_)
 ·have:=hco l (seen hl1 hl2)
  rw [if_pos (by rw [<- hap];exact of_decide_eq_true c2)] at this
  omega
 ·have:=hco l (seen hl1 hl2)
  rw [if_neg (by rw [<- hap];exact fun z=>c2 (decide_eq_true z))] at this
  rw [this]
  by_cases z:(XG (Zh B.st.nm) 5 0 l).2=[Zh B.st.nm]
  ·rw [if_pos z,if_pos (decide_eq_true z)];omega
  ·rw [if_neg z,if_neg (fun y=>z (of_decide_eq_true y))];omega
end
end K24
namespace L2
open PySem PySem.W PySem.Spec PyProof.Rows
section
variable {X:Cx}
theorem Zim (J:X.A.guards=some [])(Z:X.A.units+64 < Oh):Yv X (.type "str") (fun xs H Q=>∃ a d,xs=[.ref a]/\DataOf H (.ref a) d/\d.showable=true/\d.shown.length<=Qi/\d.depth<=60/\Q (.str d.shown) H):=by
 intro pins s σ H xs us Q I r h
 obtain ⟨a,d,rfl,dd,W,hz,hd,q⟩:=h
 obtain ⟨u,rfl,Y⟩:=Yr r
 obtain ⟨D,as,rd⟩:=DataOf.reads I.hok u dd Y
 cases Y
 cases rd with
 | list h1 h2 h3 h4=>exact Nt (Reads.list h1 h2 h3 h4) W (fun z=>by rw [D] at z;cases z) J (by omega) (fun _ _ e=>e) (fun h' t' k B=>⟨.str _,H,I.kept (t':=k) B,⟨_,rfl⟩,q⟩) hz
 | tuple h1 h2 h3 h4=>exact Nt (Reads.tuple h1 h2 h3 h4) W (fun z=>by rw [D] at z;cases z) J (by omega) (fun _ _ e=>e) (fun h' t' k B=>⟨.str _,H,I.kept (t':=k) B,⟨_,rfl⟩,q⟩) hz
 | dict h1 h2 h3 h4 h5=>cases D
end
end L2
namespace L2
open PySem PySem.Spec PyProof.Rows
section
variable {prog:Ql}{w:Qs}{A:QL}{E:Qb->Qf->Prop}{h:Heap}{g:Array SW}{d:Nv}{t:Nat}{os:OsState}
variable {nm q:Str}{C N:Addr}{bs bm:List Qb}{sn:List Str}{sub:List Qb}{ab:Bool}{col:Option Bool}{dd:Option Addr}{k0 k1 k2 k3 k5:Option Qb}
end
section
variable {prog:Ql}{w:Qs}{A:QL}{E:Qb->Qf->Prop}{h:Heap}{g:Array SW}{d:Nv}{t:Nat}{os:OsState}
variable {nm q:Str}{C N x:Addr}{bs bm:List Qb}{sn:List Str}{sub:List Qb}{ab:Bool}{col:Option Bool}{dd:Option Addr}{k0 k1 k2 k3 k5:Option Qb}{name:Str}{v:Qb}{o:Obj}
end
section
variable {M:Model}{A:QL}{E:Qb->Qf->Prop}{s:Qf}{base:Heap}{n:Nat}{H:Hp}{env:Env}{outer:List Env}{L ea C dx:Addr}
end
section
variable {X:Cx}{pins:List (Addr×Obj)}{σ:St}{H H1 H2:Hp}{s s1 s2:Qf}{h':Heap}
end
section
variable {P:Ql}{w:Qs}{K:Qa}{mg:Str->Option Qb}{base:Heap}{k:Nat}{f:Addr}{fd:Qm}{ps:List Str}{sp sp':Sp}{CX:UR}
end
section
variable {X:Cx}{pins:List (Addr×Obj)}{σ:St}{H:Hp}{s:Qf}
end
section
variable {X:Cx}{body suite:List Stmt}{b0:Stmt}{C0:Addr}{x0 n:Str}{i:Nat}{tb:(St->XK)->TS}{th:TS}{p0 hp pos:Pos}
end
section
variable {P:Ql}{w:Qs}{K:Qa}{mg:Str->Option Qb}{base:Heap}{j k:Nat}{C:Addr}{x m:Str}{ps:List Str}{sp:Sp}
end
section
variable {X:Cx}{EE:St->XK}{k:Nat}{f C:Addr}{fd:Qm}{ps:List Str}{sp:Sp}{x m:Str}{p pos apos:Pos}{e o:Expr}{es:List Expr}{ta:TE}{t:TA}
end
section
variable {X:Cx}{o value:Expr}{pos pos':Pos}{ta tv:TE}
end
section
variable {X:Cx}{pins:List (Addr×Obj)}{σ:St}{H:Hp}{s:Qf}
end
section
variable {X:Cx}{EE:St->XK}{k:Nat}{C:Addr}{x:Str}{np cpos pos:Pos}{e:Expr}{t:TA}
end
end L2
namespace L2
open PySem PySem.Spec PyProof.Rows
open PySem.Builtin PySem.Builtin.ObjectAttr
section
variable {prog:Ql}{w:Qs}{A:QL}{E:Qb->Qf->Prop}{h:Heap}{g:Array SW}{d:Nv}{t:Nat}{os:OsState}
variable {nm q:Str}{C N a dx:Addr}{bs bm:List Qb}{sn:List Str}{sub:List Qb}{ab:Bool}{col:Option Bool}{dd:Option Addr}{k0 k1 k2 k3 k5:Option Qb}{name:Str}{v:Qb}{o:Obj}{vs:Array Qb}{mA:Str->Option Qb}
end
end L2
namespace L2
open PySem PySem.Spec PyProof.Rows
section
variable {X:Cx}{e:Expr}{pos:Pos}{ta:TE}
end
section
variable {X:Cx}
end
section
variable {X:Cx}
end
end L2
namespace L2
open PySem PySem.W PySem.Spec PyProof.Rows
section
variable {X:Cx}{pins:List (Addr×Obj)}{σ:List (Option V)}{H:Hp}{s:Qf}
end
section
variable {cs:Pn}{H H' H2:Hp}{h h':Heap}{b:Addr}{o:Obj}{P:Ql}{w:Qs}{fs:List Addr}
end
section
variable {P:Ql}{w:Qs}{K:Qa}{mg:Str->Option Qb}{base:Heap}{N:List Str}
end
section
variable {X:Cx}{EE:St->XK}{k i:Nat}{x:Str}{p pos:Pos}
end
section
variable {X:Cx}{k j:Nat}{f:Str}{pn:Str}{sp:Sp}{p0 lpos pos:Pos}{args:Arguments}{body:Expr}{sc:Scope}{te:(St->XK)->TE}{c Pl:Addr}
end
section
variable {X:Cx}
end
section
variable {P:Ql}{w:Qs}{K:Qa}{mg:Str->Option Qb}{base:Heap}{k:Nat}{RK:Addr->Str->Prop}{Pl:Addr}{qual:Str}{te:(St->XK)->TE}{σ:St}{H:Hp}{Q:VK}
end
section
variable {X:Cx}{k j:Nat}{RK:Addr->Str->Prop}{f:Str}{pn:Str}{p0 lpos pos:Pos}{args:Arguments}{body:Expr}{sc:Scope}{te:(St->XK)->TE}{c Pl:Addr}
end
end L2
namespace L2
open PySem
section
variable {K:Qa}{CH CR CS CT h d r sp i t lf lu:Addr}{s:Hs}{fs:List Fnd}{us:List Bool}{Δ:Rs}{H:Hp}
end
end L2
namespace L2
open PySem PySem.W
end L2
namespace L2
open PySem
end L2
namespace K24
open PySem L2
def Zdg:Stp->Jh
 | .set x v=>.tuple [.str "set",.str x,Zbt v]
 | .clr x=>.tuple [.str "clear",.str x]
open Classical in
noncomputable def prP (NS:List Str) (F:Str->Option V):List (Str×V):=if h:∃ qs,PsOf NS F 0 0 qs/\YS qs then choose h else []
theorem ZoM (h:PsOf NS F 0 0 qs)(s:YS qs):qs=prP NS F:=by
 have ex:∃ qs,PsOf NS F 0 0 qs/\YS qs:=⟨qs,h,s⟩
 unfold prP
 rw [dif_pos ex]
 obtain ⟨a,b⟩:=Oe ex
 exact ZaN s b h.1 a.1 fun z=>(h.2 z.1 z.2).trans (a.2 z.1 z.2).symm
noncomputable def envF (pls:List ZE) (k:Nat):Str->Option V:=(envs pls).getD k fun _=>none
noncomputable abbrev sD (pls:List ZE) (k:Nat):PyData:=match k with | 0=>.none | k+1=>Zdg (pls.getD k ⟨0,.clr "",0,0⟩).st
noncomputable def rwD (NS:List Str) (pls:List ZE) (k:Nat):PyData:=.tuple [.list ((rd pls k).map fun n:Nat=>Ji (n:Int)),sD pls k,.int (VO pls k:Int),.list ((prP NS (envF pls k)).map ZlY),.int (coN pls k:Int)]
noncomputable def lkV (NS:List Str) (pls:List ZE) (k:Nat):List V:=NS.map fun x=>(envF pls k x).getD .non
noncomputable def shD (NS:List Str) (pls:List ZE):Nat->List Jh
 | 0=>[]
 | n+1=>(shD NS pls n++[rwD NS pls n])++[.list ((lkV NS pls n).map Zbt)]
theorem ZbL :∀ ns:List Nat,DatasOf H (ns.map nV) (ns.map fun n:Nat=>Ji (n:Int))
 | []=>.nil
 | n::r=>.cons (.int _) (ZbL r)
theorem VX :∀{xs:List V}{ds:List Jh}{v:V}{d:Jh},DatasOf H xs ds->DataOf H v d->DatasOf H (xs++[v]) (ds++[d])
 | [],[],_,_,_,h=>.cons h .nil
 | _::_,_::_,_,_,.cons a b,h=>.cons a (VX b h)
def VM (xs:List V)(ds:List Jh):YB:=fun _ h=>DatasOf h xs ds
instance {xs:List V} {ds:List Jh}:Up (VM xs ds):=⟨fun h s=>DatasOf.mono s h⟩
section
variable {P:Ql}{w:Qs}{K:Qa}{mg:Str->Option Qb}{base:Heap}{CR CS Pl Pp:Addr}
theorem ZeJ (I:RInv NS pls nds z){k:Nat}(B:k<=pls.length):(envs pls)[k]?=some (envF pls k)/\∀ x u,envF pls k x=some u->IsVal u:=by
 have e:(envs pls)[k]?=some (envF pls k):=by
  unfold envF
  rw [getD_eq_getElem?_getD,getElem?_eq_getElem (by rw [Xf];omega)];rfl
 exact ⟨e,(I.tr k _ _ e (XL B)).2.2⟩
theorem ZoX {NS:List Str}{pls:List ZE}{i:Nat}{v:V}{Δ:Rs}{H:Hp}(z:XC NS pls)(S:Sep Δ H)(h:StV pls i v H):Sep ((1,VM [v] [sD pls i])::Δ) H:=by
 cases i with
 | zero =>
  cases (show v=.non from h)
  exact Sep.pack (Γ:=[]) S fun h _=>.cons .non .nil
 | succ i =>
  obtain ⟨a,s,rfl,es,ea⟩:=h
  rw [getElem?_map] at es
  obtain ⟨q,D,rfl⟩:=Gq.mp es
  have B:=z q (mem_of_getElem? D)
  have e:(pls.getD i ⟨0,.clr "",0,0⟩).st=q.st:=by rw [getD_eq_getElem?_getD,D];rfl
  refine Sep.pack (Γ:=[(a,Tup q.st.vs)]) (S.imm ea rfl) fun h G=>.cons ?_ .nil
  show DataOf h (.ref a) (Zdg (pls.getD i ⟨0,.clr "",0,0⟩).st)
  rw [e]
  have ea:=G.get a
  revert ea B
  generalize q.st=s
  intro B ea
  cases s with
  | set x v=>exact .tup ea (.cons (.str _) (.cons (.str _) (.cons (ZcO (.inr B.2)) .nil)))
  | clr x=>exact .tup ea (.cons (.str _) (.cons (.str _) .nil))
theorem ZlP (B:WfP pls):∀ f k,k<=pls.length->∀ j∈bk pls f k,j<=k
 | 0,_,_,_,h=>nomatch h
 | f+1,0,_,j,h=>by rw [mem_singleton.mp (show j∈[0] from h)];exact Qe _
 | f+1,k+1,hk,j,h=>by
  have D:=B.at (show k < pls.length by omega)
  rcases mem_cons.mp (show j∈(k+1)::bk pls f _ from h) with rfl | z
  ·exact Qe _
  ·have:=ZlP B f _ (by omega) j z;omega
theorem Zjj (NS:List Str)(F:Str->Option V):(∀ p∈prP NS F,p.1∈NS/\F p.1=some p.2)/\(prP NS F).length<=NS.length:=by
 unfold prP
 split
 case isTrue ex =>
  obtain ⟨a,b⟩:=Oe ex
  exact ⟨fun p hp=>have z:=(a.2 p.1 p.2).mp hp;⟨z.1,z.2.2⟩,a.few⟩
 case isFalse=>exact ⟨fun p hp=>(nomatch hp),Qw _⟩
theorem Zdj:∀ x∈(["set","clear"]:List Str),(x.cps.toList.all fun c=>decide (c < 128))=true/\x.length<=20:=by decide +kernel
theorem ZgA {NS:List Str}{pls:List ZE}{nds:List Nd}{J:List (Zj×V)}(hN:∀ x∈NS,Yt x)(hNl:NS.length<=40)(I:RInv NS pls nds J)(W:XC NS pls)(hpl:pls.length<=60)(Y:nds.length<=10000):∀ n,n<=pls.length+1->(shD NS pls n).length=2 * n/\∀ d∈shD NS pls n,Sml d 60000 3
 | 0,_=>⟨rfl,fun d hd=>nomatch hd⟩
 | n + 1,hn=>by
  obtain ⟨i1,i2⟩:=ZgA hN hNl I W hpl Y n (by omega)
  have Z:n<=pls.length:=by omega
  obtain ⟨eF,vF⟩:=ZeJ I Z
  have B:∀ (m k:Nat),m<=10000->Sml (.int (m:Int)) 40 k:=fun m k h=>Zmz (Qr (show (m:Int).natAbs<=10000 by omega) (by decide)) k
  refine ⟨by unfold shD;simp only [length_append,length_cons,JV];omega,fun d hd=>?_⟩
  unfold shD at hd
  rcases mem_append.mp hd with hd | hd
  ·rcases mem_append.mp hd with hd | hd
   ·exact i2 d hd
   rw [mem_singleton.mp hd]
   refine (Zap (n:=10000) (k:=2) fun d hd=>?_).le (by show 3+5 * 10002<=60000;decide) (Qe _)
   rcases mem_cons.mp hd with rfl | hd
   ·have hl:(rd pls n).length<=61:=by unfold rd;rw [length_reverse];exact Qr (Zeu pls _ _) (by omega)
    refine (Vx (n:=40) (k:=0) fun d hd=>?_).le (by rw [length_map];omega) (by decide)
    obtain ⟨m,hm,rfl⟩:=mem_map.mp hd
    refine B m 0 ?_
    unfold rd at hm
    have:=ZlP I.wf _ _ Z m (List.mem_reverse.mp hm)
    omega
   rcases mem_cons.mp hd with rfl | hd
   ·cases n with
    | zero=>exact (Zag (.inl rfl) 0).le (by decide) (by decide)
    | succ n =>
     have e:=getElem?_eq_getElem (show n < pls.length by omega)
     have D:=W _ (mem_of_getElem? e)
     have eg:sD pls (n+1)=Zdg pls[n].st:=by show Zdg (pls.getD n _).st=_;rw [getD_eq_getElem?_getD,e];rfl
     rw [eg]
     revert D
     generalize pls[n].st=s
     intro D
     have nm:∀ x∈NS,Sml (.str x) 200 0:=fun x hx=>(ZeW (hN x hx) 0).le (by decide) (Qe _)
     have lt:∀ x∈(["set","clear"]:List Str),Sml (.str x) 200 0:=fun x hx=>have z:=Zdj x hx;(ZmF z.1 z.2 0).le (show 100<=200 by decide) (Qe _)
     cases s with
     | set x v =>
      refine (Zap (n:=200) (k:=0) fun d hd=>?_).le (by show 3+3 * 202<=10000;decide) (by decide)
      rcases mem_cons.mp hd with rfl | hd
      ·exact lt _ (by simp)
      rcases mem_cons.mp hd with rfl | hd
      ·exact nm x D.1
      rw [mem_singleton.mp hd];exact Zag (.inr D.2) 0
     | clr x =>
      refine (Zap (n:=200) (k:=0) fun d hd=>?_).le (by show 3+2 * 202<=10000;decide) (by decide)
      rcases mem_cons.mp hd with rfl | hd
      ·exact lt _ (by simp)
      rw [mem_singleton.mp hd];exact nm x D
   rcases mem_cons.mp hd with rfl | hd
   ·have ht:=(I.tr n _ _ eF (XL Z)).2.1
    obtain ⟨z,hz,_⟩:=Ux ht
    have:=(Qg.mp hz).1
    exact (B (VO pls n) 0 (by omega)).le (by decide) (by decide)
   rcases mem_cons.mp hd with rfl | hd
   ·obtain ⟨g1,g2⟩:=Zjj NS (envF pls n)
    refine (Vx (n:=244) (k:=1) fun d hd=>?_).le (by rw [length_map];omega) (by decide)
    obtain ⟨p,hp,rfl⟩:=mem_map.mp hd
    exact ZkP (n:=40) (m:=200) (k:=0) (ZeW (hN _ (g1 p hp).1) 0) (Zag (.inr (vF _ _ (g1 p hp).2)) 0)
   rw [mem_singleton.mp hd]
   refine (B (coN pls n) 0 ?_).le (by decide) (by decide)
   cases n with
   | zero=>exact Qw _
   | succ n =>
    have e:=getElem?_eq_getElem (show n < pls.length by omega)
    show (pls.getD n ⟨0,.clr "",0,0⟩).co<=_
    rw [getD_eq_getElem?_getD,e]
    exact Qr (I.nm _ (mem_of_getElem? e)) (by decide)
  ·rw [mem_singleton.mp hd]
   refine (Vx (n:=200) (k:=0) fun d hd=>?_).le (by unfold lkV;rw [length_map,length_map];omega) (by decide)
   obtain ⟨v,hv,rfl⟩:=mem_map.mp hd
   unfold lkV at hv
   obtain ⟨x,_,rfl⟩:=mem_map.mp hv
   cases e:envF pls n x with
   | none=>exact Zag (.inl rfl) 0
   | some u=>exact Zag (.inr (vF x u e)) 0
theorem Zks (h:∀ d∈ds,Sml d 60000 3)(z:ds.length<=130):Sml (.list ds) Qi 60:=(Vx h).le (Qr (show 2+ds.length * (60000+2)<=2+130 * 60002 from OC (Th _ z) 2) (by decide)) (by decide)
inductive ZlA (K:Qa)(CR CS Pp:Addr)(vs:List V)(H:Hp)(Q:VK)(w_3:XK):Prop
 | mk (NS:List Str) (r nl:Addr) (pls:List ZE) (nds:List Nd) (tabs:List (Zj×V)) (Δ:Rs):vs=[.ref r,.ref nl]->ZZ NS->(∀ x∈NS,Yt x)->NS.length<=40->Sep ((nl,Zv (NS.map V.str))::(r,XB K CR CS pls nds tabs)::(Pp,Yx)::Δ) H->RInv NS pls nds tabs->XC NS pls->pls.length<=60->nds.length<=10000->(∀ (H':Hp),Sep ((nl,Zv (NS.map V.str))::(r,XB K CR CS pls nds tabs)::(Pp,Yx)::Δ) H'->Q (.str (Tl (shD NS pls (pls.length+1))).shown) H')->ZlA K CR CS Pp vs H Q w_3
abbrev nSd:List Str:=["_law_roads","_law_names_here","_law_found","_law_place"]
abbrev Zle:List Str:=["_law_roads","_law_names_here"]
theorem scSd:Zp nSd Zle (Zk s_l_stand):={}
theorem ZpG (F:Fun K "_law_stand" "_law_stand" s_l_stand f fd)(T:Yl mg)(TR:Xo K CR)(Y:DefM P w K mg base 11 CR "places" ZhA (Zbq K CR CS))(DR_road:DefM P w K mg base 11 CR "road" ZhB (Zfy K CR CS))(DR_step:DefM P w K mg base 11 CR "step" ZhC (Zdd K CR CS))(DR_table:DefM P w K mg base 11 CR "table" VA (WM K CR CS))(Z:DefM P w K mg base 11 CR "all_at" Zeb (Zei K CR CS Pp))(DR_cost:DefM P w K mg base 11 CR "cost" Zec (Zco K CR CS))(DR_looked:DefM P w K mg base 11 CR "looked" Zhz (ZhQ K CR CS)):FnOk P w K mg base ZJ 12 f fd Zle (ZlA K CR CS Pp):=by
 refine F.ok scSd (fun cdv A outer s H vs Q E hr h=>?_)
 obtain ⟨NS,r,nl,pls,nds,B,Δ,rfl,N,hN,hNl,S,I,hok,hpl,hnd,q⟩:=h
 refine' ⟨?t,?h,?r⟩
 case h =>
  conv=>arg 2;whnf
  with_reducible refine' (Ze ?h1 (Ze (Wt ?h2 ?h3 ?h4 ?h5 (Ze ?h6 (Zg ?h7)) ?h8) (Zg ?h9)))
  case h1=>exact Zx (i:=2) scSd.nd rfl (Qy rfl) (Yh Za)
  case h2=>exact Ga
  case h3=>exact rfl
  case h4=>exact Xj rfl T.range (Zb (Ud Y TR.cl hr (pv 0)) Za)
  case h5=>exact ZI (i:=3) scSd.nd rfl (Jg rfl)
  case h6=>exact ZY (YL Qz QF QG Yp (pv 2) (Zb (YQ (Zb (ZT DR_road TR.cl hr (pv 0) (Zb (pv 3) Za)) (Zb (ZT DR_step TR.cl hr (pv 0) (Zb (pv 3) Za)) (Zb (ZT DR_table TR.cl hr (pv 0) (Zb (pv 3) Za)) (Zb (ZT Z TR.cl hr (pv 0) (Zb (pv 3) Za)) (Zb (ZT DR_cost TR.cl hr (pv 0) (Zb (pv 3) Za)) Za)))))) Za))
  case h7=>exact ZY (YL Qz QF QG Yp (pv 2) (Zb (WE (CompOk.of nSd s_l_stand rfl rfl (by decide +kernel)) rfl (XT (pv 1))  (fun _ _ _ _ _=>ZT DR_looked TR.cl hr (pv 0) (Zb (pv 3) (Zb (pv 4) Za)))) Za))
  case h8=>exact fun _=>rfl
  case h9=>exact Zn (Yk (Zim hr.gd hr.units) rfl T.str (by decide +kernel) (Zb (pv 2) Za))
 try dsimp only [ZR,Cx.nox]
 refine zs3 ?_
 intro zD zS zN2 zN1
 obtain ⟨st,S⟩:=Zlr (S.pull r)
 refine ⟨(by show 0<=Qi;decide),fun D hD=>?_⟩
 generalize hE:upd H D _=H1
 have S1:=S.newE hD hE
 clear hE
 have S2:Sep ((0,VM [] [])::(D,Zv [])::(r,Xn K CR CS pls nds B st)::(nl,Zv (NS.map V.str))::(Pp,Yx)::Δ) H1:=Sep.pack (Γ:=[]) S1 fun h _=>.nil
 clear S S1
 have R2:=S2.get r
 obtain ⟨la2,ls2,lt2,lc2,SR2⟩:=id R2
 obtain ⟨dx2,W⟩:=SR2.get r
 refine ⟨_,rfl,r,dx2,_,rfl,W,Yq (by decide +kernel),r,pls,nds,B,rfl,⟨st,R2⟩,?_⟩
 clear SR2 W R2 dx2
 refine ⟨_,rfl,by omega,by omega,?_⟩
 refine WQ (fun i σ H'=>∃ x3 ys,σ=[some (.ref r),some (.ref nl),some (.ref D),x3]/\Sep ((0,VM ys (shD NS pls i))::(D,Zv ys)::(r,Xn K CR CS pls nds B st)::(nl,Zv (NS.map V.str))::(Pp,Yx)::Δ) H'/\ys.length=2 * i) ⟨_,[],rfl,S2,rfl⟩ ?_ ?_
 ·rintro i σ H2 hi ⟨x3,ys,rfl,S3,hyl⟩
  have hk:i<=pls.length:=by omega
  obtain ⟨eF,vF⟩:=ZeJ I hk
  refine ⟨_,rfl,.inl ⟨rfl,_,SqL.of (S3.get D)⟩,?_⟩
  have R1:=S3.get r
  obtain ⟨la1,ls1,lt1,lc1,SR1⟩:=id R1
  obtain ⟨dx1,ob1⟩:=SR1.get r
  refine ⟨_,rfl,r,dx1,_,rfl,ob1,Yq (by decide +kernel),_,rfl,r,pls,nds,B,i,congrArg (fun z=>[V.ref r,V.int z]) (PH _),⟨st,R1⟩,I.wf,hk,by omega,fun l1 H3 s3 hl1 el1=>?_⟩
  have S4:=S3.made s3 hl1 el1
  clear S3 R1 SR1 ob1
  have R2:=S4.get r
  obtain ⟨la2,ls2,lt2,lc2,SR2⟩:=id R2
  obtain ⟨dx2,W⟩:=SR2.get r
  refine ⟨_,rfl,r,dx2,_,rfl,W,Yq (by decide +kernel),_,rfl,r,pls,nds,B,i,congrArg (fun z=>[V.ref r,V.int z]) (PH _),⟨st,R2⟩,hk,fun v hv=>?_⟩
  refine ⟨_,rfl,r,dx2,_,rfl,W,Yq (by decide +kernel),_,rfl,r,pls,nds,B,i,congrArg (fun z=>[V.ref r,V.int z]) (PH _),⟨st,R2⟩,hk,?_⟩
  have S5:=ZoX hok S4 hv
  refine ⟨_,rfl,r,dx2,_,rfl,W,Yq (by decide +kernel),_,rfl,NS,r,st,pls,nds,B,i,_,_,congrArg (fun z=>[V.ref r,V.int z]) (PH _),N,(S5.pull Pp).pull r,I,hk,eF,fun fl H4 qs S6 hqs hsr=>?_⟩
  obtain rfl:=ZoM hqs hsr
  clear S4 S5 R2 SR2 W hv
  have R3:=S6.get r
  obtain ⟨la3,ls3,lt3,lc3,SR3⟩:=id R3
  obtain ⟨dx3,ob3⟩:=SR3.get r
  refine ⟨_,rfl,r,dx3,_,rfl,ob3,Yq (by decide +kernel),_,rfl,r,pls,nds,B,i,congrArg (fun z=>[V.ref r,V.int z]) (PH _),⟨st,R3⟩,hk,?_⟩
  clear R3 SR3 ob3
  refine ⟨(by show 5<=Qi;decide),fun t ht=>?_⟩
  generalize hE:upd H4 t _=H5
  have S7:=S6.newE ht hE
  clear hE
  refine ⟨D,ys,.ref t,rfl,rfl,S7.get D,QT (show ys.length<=1000 by omega) (by decide),?_⟩
  generalize hE:upd H5 D _=H6
  have S8:=(S7.putE hE)
  clear hE
  have S9:=(((((S8.pull Pp).pull r).pull fl).pull l1).pull 1 |>.pull t |>.pull 0)
  have S10:Sep ((0,VM (ys++[.ref t]) (shD NS pls i++[rwD NS pls i]))::(D,Zv (ys++[.ref t]))::(r,Xn K CR CS pls nds B st)::(nl,Zv (NS.map V.str))::(Pp,Yx)::Δ) H6:=by
   have:=Sep.pack (a:=0) (R:=VM (ys++[.ref t]) (shD NS pls i++[rwD NS pls i])) (Γ:=[(0,VM ys (shD NS pls i)),(t,Tup [.ref l1,v,.int (VO pls i:Int),.ref fl,.int (coN pls i:Int)]),(1,VM [v] [sD pls i]),(l1,Zv ((rd pls i).map nV)),(fl,PLs (prP NS (envF pls i)))]) S9 fun h G=>?_
   ·exact (((this.pull nl).pull r).pull D).pull 0
   refine VX (G.get 0) (.tup (G.get t) (.cons (.lst (G.get l1) (ZbL _)) ?_))
   cases (show DatasOf h [v] [sD pls i] from G.get 1) with
   | cons a b =>
    refine .cons a (.cons (.int _) (.cons ?_ (.cons (.int _) .nil)))
    obtain ⟨ts,e1,e2⟩:=G.get fl
    exact .lst e1 (Zcg e2 fun p hp=>vF p.1 p.2 ((hqs.2 p.1 p.2).mp hp).2.2)
  clear S6 S7 S8 S9
  refine ⟨_,rfl,.inl ⟨rfl,_,SqL.of (S10.get D)⟩,?_⟩
  refine ⟨_,rfl,nl,rfl,⟨_,SqL.of (S10.get nl)⟩,fun D2 hD2=>?_⟩
  refine ZbJ (K:=K) (xs:=NS.map V.str) (Yy (show _<=1000 by rw [length_map];omega)) S10 hD2 (fun j zs Δ'=>Δ'=(0,VM (ys++[.ref t]) (shD NS pls i++[rwD NS pls i]))::(D,Zv (ys++[.ref t]))::(r,Xn K CR CS pls nds B st)::(nl,Zv (NS.map V.str))::(Pp,Yx)::Δ/\zs=(lkV NS pls i).take j) ⟨rfl,rfl⟩ ?_ ?_ ?_
  ·rintro j zs Δ' H7 ⟨rfl,_⟩ J;exact SqL.of (J.get nl)
  ·rintro j x zs Δ' H7 hx hzl ⟨rfl,rfl⟩ J
   rw [getElem?_map] at hx
   obtain ⟨x,hx2,rfl⟩:=Gq.mp hx
   have R4:=J.get r
   obtain ⟨la4,ls4,lt4,lc4,SR4⟩:=id R4
   obtain ⟨dx4,ob4⟩:=SR4.get r
   refine ⟨_,rfl,r,dx4,_,rfl,ob4,Yq (by decide +kernel),_,rfl,_,rfl,NS,r,pls,nds,B,i,x,_,congrArg (fun z=>[V.ref r,V.int z,V.str x]) (PH _),N,⟨st,R4⟩,I,hk,eF,mem_of_getElem? hx2,fun H8 s8=>⟨_,⟨rfl,?_⟩,J.mono s8⟩⟩
   have e:(lkV NS pls i)[j]?=some ((envF pls i x).getD .non):=by unfold lkV;rw [getElem?_map,hx2];rfl
   rw [take_add_one,e];rfl
  rintro zs Δ' H7 ⟨rfl,rfl⟩ hzl J
  have ez:(lkV NS pls i).take (NS.map V.str).length=lkV NS pls i:=take_of_length_le (by unfold lkV;rw [length_map,length_map];exact Qe _)
  rw [ez] at J
  refine ⟨D,ys++[V.ref t],.ref D2,rfl,rfl,J.get D,QT (show _<=1000 by rw [length_append];show ys.length+1<=1000;omega) (by decide),?_⟩
  generalize hE:upd H7 D _=H8
  have S12:=J.putE hE
  clear hE
  refine ⟨_,_,rfl,((((Sep.pack (a:=0) (R:=VM (ys++[.ref t]++[.ref D2]) (shD NS pls (i+1))) (Γ:=[(0,VM (ys++[.ref t]) (shD NS pls i++[rwD NS pls i])),(D2,Zv (lkV NS pls i))]) ((S12.pull D2).pull 0) fun h G=>?_).pull nl).pull r).pull D).pull 0,by simp only [length_append,length_cons,JV];omega⟩
  refine VX (G.get 0) (.lst (G.get D2) (ZdR fun v hv=>?_))
  unfold lkV at hv
  obtain ⟨x,_,rfl⟩:=mem_map.mp hv
  cases e:envF pls i x with
  | none=>exact .inl rfl
  | some u=>exact .inr (vF x u e)
 ·rintro σ H2 ⟨x3,ys,rfl,S3,hyl⟩
  have e:((pls.length+1:Nat):Int).toNat=pls.length+1:=by omega
  obtain ⟨z1,z2⟩:=ZgA hN hNl I hok hpl hnd (pls.length+1) (Qe _)
  have sm:=Zks z2 (by omega)
  have S3':Sep ((0,VM ys (shD NS pls (pls.length+1)))::(D,Zv ys)::(r,Xn K CR CS pls nds B st)::(nl,Zv (NS.map V.str))::(Pp,Yx)::Δ) H2:=S3
  refine ⟨_,rfl,D,_,rfl,.lst (S3'.get D) (S3'.get 0),sm.sh,sm.ln,sm.dp,q H2 ?_⟩
  exact ((((S3'.say r (XB K CR CS pls nds B) fun h ⟨la,ls,lt,lc,G⟩=>⟨st,la,ls,lt,lc,G⟩).drop 0).drop D).pull r).pull nl
end
section
variable {P:Ql}{w:Qs}{K:Qa}{mg:Str->Option Qb}{base:Heap}{CR CS Pl Pp:Addr}
theorem Zpq (ps:List (Str×V))(x:Str)(v:V):upF (lk ps) x v=lk (Xi ps x v):=funext fun y=>(ZcS ps x y v).symm
theorem ZnX (ps:List (Str×V))(x:Str):VY (lk ps) x=lk (YN ps x):=funext fun y=>(Zat ps x y).symm
def EsOk (NS:List Str)(nds:List Nd)(tabs:List (Zj×V))(es:List (Nat×List (Str×V))):Prop:=∀ e∈es,HeldOk NS e.2/\(ZG tabs (QD (e.1:Int))).isSome=true/\Tri NS nds (lk e.2) 5 0 0 e.1
theorem EsOk.app {t:Nat}(h:EsOk NS nds B es)(ext:NEx nds nds')(mono:∀ k,(ZG B k).isSome=true->(ZG z k).isSome=true)(h1:HeldOk NS ps)(h2:(ZG z (QD (t:Int))).isSome=true)(J:Tri NS nds' (lk ps) 5 0 0 t):EsOk NS nds' z (es++[(t,ps)]):=fun e D=>by
 rcases mem_append.mp D with y | y
 ·have g:=h e y;exact ⟨g.1,mono _ g.2.1,g.2.2.mono _ ext⟩
 ·rw [mem_singleton.mp y];exact ⟨h1,h2,J⟩
theorem RInv.up (I:RInv NS pls nds B)(ext:NEx nds nds')(mono:∀ k,(ZG B k).isSome=true->(ZG z k).isSome=true):RInv NS pls nds' z :=
 ⟨I.wf,fun k t e=>Can.mono ext (I.cn k t e),I.vt,fun k F t e1 D=>have g:=I.tr k F t e1 D;⟨mono _ g.1,g.2.1.mono _ ext,g.2.2⟩,I.co,I.nm⟩
inductive Zlx (K:Qa)(CR CS Pl Pp:Addr)(vs:List V)(H:Hp)(Q:VK)(w_3:XK):Prop
 | mk (NS:List Str) (p r sl nl vl tl:Addr) (pls:List ZE) (nds:List Nd) (tabs:List (Zj×V)) (us:List V) (es:List (Nat×List (Str×V))) (n:Nat) (Δ:Rs):vs=[.ref p,.ref r,.ref sl,.ref nl,.ref vl,.ref tl]->Sep ((p,Bx n)::(r,XB K CR CS pls nds tabs)::(Pl,YG)::(Pp,Yx)::(sl,StopL pls)::(nl,Zv (NS.map V.str))::(vl,Zv us)::(tl,We es)::Δ) H->ZZ NS->(∀ x∈NS,Yt x)->NS≠[]->NS.length<=40->us≠[]->us.length<=100->(∀ u∈us,IsVal u)->RInv NS pls nds tabs->XC NS pls->EsOk NS nds tabs es->es≠[]->es.length<=500->pls.length<=60->nds.length<=9000->tabs.length<=9000->n<=10000->(∀ (n':Nat) (nds':List Nd) (tabs':List (Zj×V)) (es':List (Nat×List (Str×V))) (H':Hp),Sep ((p,Bx n')::(r,XB K CR CS pls nds' tabs')::(Pl,YG)::(Pp,Yx)::(sl,StopL pls)::(nl,Zv (NS.map V.str))::(vl,Zv us)::(tl,We es')::Δ) H'->RInv NS pls nds' tabs'->EsOk NS nds' tabs' es'->es'≠[]->es'.length<=es.length+4->nds'.length<=nds.length+24->tabs'.length<=tabs.length+4->n'<=n+25->Q (.bl true) H')->Zlx K CR CS Pl Pp vs H Q w_3
abbrev nBs:List Str:=["_law_box_here","_law_roads","_law_stops","_law_names_here","_law_values_here","_law_tables","_law_shelf","_law_turn","_law_table","_law_kept","_law_place","_law_step_here","_law_made"]
abbrev ZkW:List Str:=["_law_box_here","_law_roads","_law_stops","_law_names_here","_law_values_here","_law_tables"]
theorem scBs:Zp nBs ZkW (Zk s_l_besides):={}
theorem ZpC (F:Fun K "_law_besides" "_law_besides" s_l_besides f fd)(T:Yl mg)(TR:Xo K CR)(TC:YY K CS)(DT:DTk P w K mg base 1)(DR_store:DefM P w K mg base 12 CR "store" Zef (Zel CR))(DR_table:DefM P w K mg base 12 CR "table" VA (WM K CR CS))(DAl:Def P w K mg base 12 "_law_all" Zhv Zeg)(DSt:Def P w K mg base 12 "_law_step" ZhE Zcs)(DS_put:DefM P w K mg base 12 CS "put" ["self","table","name","value"] (Zam K CS Pl))(DS_without:DefM P w K mg base 12 CS "without" ["self","table","name"] (Zcu K CS Pl))(DS_pairs:DefM P w K mg base 12 CS "pairs" ZcQ (Uw K CS Pp))(DSm:Def P w K mg base 12 "_law_same" ZhD ZhS):FnOk P w K mg base ZJ 13 f fd ZkW (Zlx K CR CS Pl Pp):=by
 refine F.ok scBs (fun cdv A outer s H vs Q E hr h=>?_)
 obtain ⟨NS,p,r,Z,nl,vl,tl,pls,nds,tabs,us,es,n,Δ,rfl,S,N,hN,hN0,hNl,hu0,hul,huv,I,hok,hes,he0,hel,hpl,hnd,htb,hn,q⟩:=h
 have hr1:=hr.mono (show 1<=12 by decide)
 refine' ⟨?t,?h,?r⟩
 case h =>
  conv=>arg 2;whnf
  with_reducible refine' (Ze ?h1 (Ze (Wt ?h2 ?h3 ?h4 ?h5 (Ze ?h6 (Ze (Yi ?h7 (Ze ?h8 (Zg ?h9)) ZV) (Ze ?h10 (Zg (Yi ?h11 (Ze ?h12 (Zg ?h13)) (Ze ?h14 (Zg ?h15))))))) ?h16) (Zg ?h17)))
  case h1=>exact Zx (i:=6) scBs.nd rfl (Jg rfl) (Ud DR_store TR.cl hr (pv 1))
  case h2=>exact Ga
  case h3=>exact rfl
  case h4=>exact Xj rfl T.range (Zb (Zt Yu Zd (ZA DT hr1 (Zb (pv 0) (Zb Zd Za)))) Za)
  case h5=>exact ZI (i:=7) scBs.nd rfl (Qy rfl)
  case h6=>exact XH (Zo ZD (pv 5) (ZA DT hr1 (Zb (pv 0) (Zb (Zz ZL rfl T.len QM (Zb (pv 5) Za)) Za))) (fun _ _=>rfl)) (Ws rfl (Yb (ZI (i:=8) scBs.nd rfl (Qy rfl)) (Yb (ZI (i:=9) scBs.nd rfl (Qy rfl)) XS)))
  case h7=>exact ZP Yo (ZA DT hr1 (Zb (pv 0) (Zb Zd Za))) Zd (ZH _)
  case h8=>exact Zx (i:=10) scBs.nd rfl (Qy rfl) (ZA DT hr1 (Zb (pv 0) (Zb (Zz ZL rfl T.len QM (Zb (pv 2) Za)) Za)))
  case h9=>exact Zck (i:=8) (j:=9) rfl scBs.nd rfl rfl (by decide) rfl rfl (Zb (ZT DR_table TR.cl hr (pv 1) (Zb (pv 10) Za)) (Zb (ZA DAl hr (Zb (pv 2) (Zb (pv 10) Za))) Za)) rfl
  case h10=>exact Zck (i:=11) (j:=12) rfl scBs.nd rfl rfl (by decide) rfl rfl (Zb (ZA DSt hr (Zb (pv 0) (Zb (pv 3) (Zb (pv 4) Za)))) (Zb (Yk ZcF rfl T.dict (by decide +kernel) (Zb (pv 9) Za)) Za)) rfl
  case h11=>exact ZP Yo (Zo ZO (pv 11) Zd (fun _ _=>rfl)) ZU (ZH _)
  case h12=>exact ZaE (Ua hr) (pv 12) (Zo ZO (pv 11) Zd (fun _ _=>rfl)) (Zo ZO (pv 11) Zd (fun _ _=>rfl)) rfl
  case h13=>exact ZY (YL Qz QF QG Yp (pv 5) (Zb (YQ (Zb (ZT DS_put TC.cl hr (pv 6) (Zb (pv 8) (Zb (Zo ZO (pv 11) Zd (fun _ _=>rfl)) (Zb (Zo ZO (pv 11) Zd (fun _ _=>rfl)) Za)))) (Zb (pv 12) Za))) Za))
  case h14=>exact ZY (Zfg (pv 12) (Zo ZO (pv 11) Zd (fun _ _=>rfl)) UZ ⟨rfl,rfl,rfl,rfl⟩)
  case h15=>exact ZY (YL Qz QF QG Yp (pv 5) (Zb (YQ (Zb (ZT DS_without TC.cl hr (pv 6) (Zb (pv 8) (Zb (Zo ZO (pv 11) Zd (fun _ _=>rfl)) Za))) (Zb (pv 12) Za))) Za))
  case h16=>exact fun _=>rfl
  case h17=>exact Zn (Zz (ZaW rfl) rfl T.all (by decide +kernel) (Zb (Vz (xa:="_law_table") (xb:="_law_kept") (CompOkT.of nBs s_l_besides rfl rfl (by decide +kernel)) rfl (XT (pv 5)) (fun _ _ _ _ _=>Vb (K:=K) rfl rfl (ZI (i:=13) (show (UM nBs "_law_table" "_law_kept"++(["_law_table","_law_kept"]:List Str)).Nodup by decide +kernel) rfl (Qy rfl) (Jg rfl)) (ZI (i:=14) (show (UM nBs "_law_table" "_law_kept"++(["_law_table","_law_kept"]:List Str)).Nodup by decide +kernel) rfl (Qy rfl) (Jg rfl)))  (fun _ _ _ _ _=>ZA DSm hr (Zb (ZT DS_pairs TC.cl hr (pv 6) (Zb (pv 13) Za)) (Zb (pv 14) Za)))) Za))
 try dsimp only [ZR,Cx.nox]
 refine zs3 ?_
 intro zD zS zN2 zN1
 obtain ⟨st,S⟩:=Zlr (S.pull r)
 obtain ⟨la,ls,lt,lc,SR⟩:=S.get r
 obtain ⟨dx,ob⟩:=SR.get r
 refine ⟨_,rfl,r,dx,_,rfl,ob,Yq (by decide +kernel),r,st,la,ls,lt,lc,dx,rfl,ob,?_⟩
 clear SR ob
 refine ⟨_,rfl,p,n,4,_,rfl,S.pull p,by omega,by decide,by decide,fun r0 H1 a0 a1 S1=>?_⟩
 obtain ⟨m0,rfl⟩:=GB a0
 refine ⟨_,_,rfl,rfl,1+(m0:Int),rfl,by omega,by omega,?_⟩
 refine WQ (fun i σ H'=>∃ x7 x8 x9 x10 x11 x12 n' nds' W es',σ=[some (.ref p),some (.ref r),some (.ref Z),some (.ref nl),some (.ref vl),some (.ref tl),some (.ref st),x7,x8,x9,x10,x11,x12]/\Sep ((p,Bx n')::(r,Xn K CR CS pls nds' W st)::(Pl,YG)::(Pp,Yx)::(Z,StopL pls)::(nl,Zv (NS.map V.str))::(vl,Zv us)::(tl,We es')::Δ) H'/\RInv NS pls nds' W/\EsOk NS nds' W es'/\es'≠[]/\es'.length<=es.length+i/\nds'.length<=nds.length+6 * i/\W.length<=tabs.length+i/\n'<=n+1+6 * i) ⟨_,_,_,_,_,_,_,nds,tabs,es,rfl,S1.pull r |>.pull p,I,hes,he0,by omega,by omega,by omega,by omega⟩ ?_ ?_
 ·rintro i σ H2 hi ⟨x7,x8,x9,x10,x11,x12,n2,B,z,J,rfl,S2,I2,hes2,he2,hel2,hnd2,htb2,hn2⟩
  have hi4:i < 5:=by omega
  refine zs4 ?_
  intro zD zS zN3 zN2 zN1
  have rest:∀ (R':Rs) (n3 t:Nat) (kd:Addr) (ps:List (Str×V)) (x10:Option V) (H3:Hp),n3<=n2+3->Sep ((p,Bx n3)::(nl,Zv (NS.map V.str))::(vl,Zv us)::R') H3->(∀ (m:Nat) (H':Hp),Sep ((p,Bx m)::(nl,Zv (NS.map V.str))::(vl,Zv us)::R') H'->H' kd=some (.dK (ps.map kP))/\Sep ((p,Bx m)::(r,Xn K CR CS pls B z st)::(Pl,YG)::(Pp,Yx)::(Z,StopL pls)::(nl,Zv (NS.map V.str))::(vl,Zv us)::(tl,We J)::Δ) H')->HeldOk NS ps->(ZG z (QD (t:Int))).isSome=true->Tri NS B (lk ps) 5 0 0 t->zN2 [some (.ref p),some (.ref r),some (.ref Z),some (.ref nl),some (.ref vl),some (.ref tl),some (.ref st),some (.int (0+(i:Int))),some (.int (t:Int)),some (.ref kd),x10,x11,x12] H3:=by
   intro R' n3 t kd ps x10 H3 hn3 S3 rd hh g1 g2
   refine ⟨_,rfl,_,rfl,_,rfl,p,nl,vl,n3,NS,us,_,rfl,S3,hN0,hu0,by omega,by omega,huv,by omega,fun ta H4 s hs S4=>?_⟩
   obtain ⟨h4,l4,e4,S4c⟩:=S4
   obtain ⟨ek,S4d⟩:=rd _ _ S4c
   have S5:Sep ((ta,Tup s.vs)::(p,Bx (n3+3))::(r,Xn K CR CS pls B z st)::(Pl,YG)::(Pp,Yx)::(Z,StopL pls)::(nl,Zv (NS.map V.str))::(vl,Zv us)::(tl,We J)::Δ) H4:=⟨h4,l4,e4,S4d⟩
   have ek4:H4 kd=some (.dK (ps.map kP)):=WP _ _ ek
   clear S4c S4d ek e4 l4 rd S3
   refine ⟨_,rfl,kd,_,rfl,ek4,fun Y hkd2=>?_⟩
   generalize hE:upd H4 Y _=H5
   have S6:=S5.newE hkd2 hE
   clear hE S5 ek4
   have eta:=S6.get ta
   have hpsl:ps.length<=60:=by have:=hh.few;omega
   refine ⟨_,_,rfl,?_⟩
   cases s with
   | set x v =>
    refine ⟨_,rfl,ta,_,_,_,rfl,rfl,SqT.of eta,Zr (j:=0) rfl,rfl,_,rfl,?_⟩
    rw [decide_eq_true rfl]
    refine Yg ⟨_,rfl,ta,_,_,_,rfl,rfl,SqT.of eta,Zr (j:=2) rfl,_,rfl,_,rfl,ta,_,_,_,rfl,rfl,SqT.of eta,Zr (j:=1) rfl,Y,_,rfl,DPut.k (k:=QK x) (S6.get Y) (YX (show _<=1000 by rw [length_map];omega)),?_⟩
    generalize hE:upd H5 Y _=H6
    have S7:=S6.putE hE
    clear hE
    rw [show Yz (ps.map kP) (QK x) v=(Xi ps x v).map kP from VD ps x v] at S7
    clear S6
    have eta:=S7.get ta
    obtain ⟨us0,el0,hl0,_⟩:=S7.get tl
    obtain ⟨la,ls,lt,lc,S8⟩:=rxO (S7.pull r)
    obtain ⟨dxr,obr⟩:=S8.get r
    obtain ⟨bb,ln,dt,SA⟩:=S8.get st
    obtain ⟨dxs,obs⟩:=SA.ob
    refine ⟨_,rfl,.inl ⟨rfl,_,SqL.of el0⟩,_,rfl,st,dxs,_,rfl,obs,ZM ln dt (by decide +kernel) (by decide +kernel),_,rfl,_,rfl,ta,_,_,_,rfl,rfl,SqT.of eta,Zr (j:=1) rfl,_,rfl,ta,_,_,_,rfl,rfl,SqT.of eta,Zr (j:=2) rfl,NS,st,B,z,t,x,v,lk ps,_,N,rfl,(S8.pull Pl).pull st,g1,g2,hs.1,Ui hs.2,fun w hw=>Ui (hh.2 _ ((YC hh.1).mp hw)).2,by omega,by omega,fun H7 nds' W t' S9 ext l1 l2 mono g h _=>?_⟩
    rw [Zpq] at h
    have S11:=rxC ((((((S9.pull lc).pull lt).pull ls).pull la).pull st).pull r)
    refine ⟨_,rfl,(by show 2<=Qi;decide),fun u hu=>?_⟩
    generalize hE:upd H7 u _=H8
    have S12:=S11.newE hu hE
    clear hE
    obtain ⟨us1,el1,hl1,_⟩:=S12.get tl
    refine ⟨tl,_,_,rfl,rfl,el1,YX (show _<=1000 by rw [length_map,hl1];omega),?_⟩
    have S13:=(((S12.pull Y).pull u).pull tl).pastApp el1
    exact ⟨_,_,_,_,_,_,_,_,_,_,rfl,((((((((S13.drop ta).pull vl).pull nl).pull Z).pull Pp).pull Pl).pull r).pull p),I2.up ext mono,hes2.app ext mono (hh.put hs.1 hs.2) g h,by simp,by rw [length_append];show J.length+1<=_;omega,by omega,by omega,by omega⟩
   | clr x =>
    refine ⟨_,rfl,ta,_,_,_,rfl,rfl,SqT.of eta,Zr (j:=0) rfl,rfl,_,rfl,?_⟩
    rw [show decide (V.str "clear"=V.str (Qq "set"))=false by decide +kernel]
    have ed:=S6.get Y
    refine ZN ?_
    refine UI ?_
    intro zD zS zN1
    have rest2:∀ H6,Sep ((Y,Dic ((YN ps x).map kP))::(ta,Tup (Stp.clr x).vs)::(p,Bx (n3+3))::(r,Xn K CR CS pls B z st)::(Pl,YG)::(Pp,Yx)::(Z,StopL pls)::(nl,Zv (NS.map V.str))::(vl,Zv us)::(tl,We J)::Δ) H6->zN1 [some (.ref p),some (.ref r),some (.ref Z),some (.ref nl),some (.ref vl),some (.ref tl),some (.ref st),some (.int (0+(i:Int))),some (.int (t:Int)),some (.ref kd),x10,some (.ref ta),some (.ref Y)] H6:=by
     intro H6 S7
     have eta:=S7.get ta
     obtain ⟨us0,el0,hl0,_⟩:=S7.get tl
     obtain ⟨la,ls,lt,lc,S8⟩:=rxO (S7.pull r)
     obtain ⟨dxr,obr⟩:=S8.get r
     obtain ⟨bb,ln,dt,SA⟩:=S8.get st
     obtain ⟨dxs,obs⟩:=SA.ob
     refine ⟨_,rfl,.inl ⟨rfl,_,SqL.of el0⟩,_,rfl,st,dxs,_,rfl,obs,ZM ln dt (by decide +kernel) (by decide +kernel),_,rfl,_,rfl,ta,_,_,_,rfl,rfl,SqT.of eta,Zr (j:=1) rfl,NS,st,B,z,t,x,lk ps,_,N,rfl,(S8.pull Pl).pull st,g1,g2,hs,fun w hw=>Ui (hh.2 _ ((YC hh.1).mp hw)).2,by omega,by omega,fun H7 nds' W t' S9 ext l1 l2 mono g h _=>?_⟩
     rw [ZnX] at h
     have S11:=rxC ((((((S9.pull lc).pull lt).pull ls).pull la).pull st).pull r)
     refine ⟨_,rfl,(by show 2<=Qi;decide),fun u hu=>?_⟩
     generalize hE:upd H7 u _=H8
     have S12:=S11.newE hu hE
     clear hE
     obtain ⟨us1,el1,hl1,_⟩:=S12.get tl
     refine ⟨tl,_,_,rfl,rfl,el1,YX (show _<=1000 by rw [length_map,hl1];omega),?_⟩
     have S13:=(((S12.pull Y).pull u).pull tl).pastApp el1
     exact ⟨_,_,_,_,_,_,_,_,_,_,rfl,((((((((S13.drop ta).pull vl).pull nl).pull Z).pull Pp).pull Pl).pull r).pull p),I2.up ext mono,hes2.app ext mono hh.but g h,by simp,by rw [length_append];show J.length+1<=_;omega,by omega,by omega,by omega⟩
    refine ⟨_,rfl,Y,rfl,.inl ⟨_,.inl ed⟩,_,rfl,ta,_,_,_,rfl,rfl,SqT.of eta,Zr (j:=1) rfl,_,QK x,ed,rfl,fun v ev=>?_,fun ev=>?_⟩
    ·generalize hE:upd H5 Y _=H6
     have S7:=S6.putE hE
     clear hE
     rw [ZeI] at S7
     exact rest2 H6 S7
    ·refine rest2 H5 ?_
     rw [Zev (show lk ps x=none from ev)]
     exact S6
  obtain ⟨us0,el0,hl0,_⟩:=S2.get tl
  have he2p:=length_pos_iff.mpr he2
  refine ⟨_,rfl,_,rfl,_,rfl,tl,_,rfl,.inl (SqL.of el0),p,_,_,_,rfl,S2,by omega,by rw [length_map];omega,by rw [length_map];omega,fun r1 H3 b0 b1 S3=>?_⟩
  rw [length_map,hl0] at b1
  obtain ⟨k,rfl⟩:=GB b0
  have hk:k < J.length:=by omega
  have hek:=getElem?_eq_getElem hk
  have hee:=hes2 _ (QS hk)
  generalize J[k]=e at hek hee
  obtain ⟨us2,S4⟩:=(S3.pull tl).pastX
  obtain ⟨el2,hl2,_⟩:=S4.get tl
  have hu:=getElem?_eq_getElem (show k < us2.length by omega)
  generalize us2[k]'(by omega)=u at hu
  obtain ⟨et,ed⟩:=(S4.get tl).2.2 k u e hu hek
  refine ⟨tl,_,_,_,rfl,rfl,SqL.of el2,Zr (by rw [getElem?_map,hu];rfl),u.1,_,rfl,SqT.of et,rfl,_,_,rfl,_,_,rfl,rfl,?_⟩
  have backX:∀ {m:Nat} {H':Hp},Sep ((tl,Vj J us2)::(p,Bx m)::(nl,Zv (NS.map V.str))::(vl,Zv us)::(r,Xn K CR CS pls B z st)::(Pl,YG)::(Pp,Yx)::(Z,StopL pls)::Δ) H'->Sep ((p,Bx m)::(r,Xn K CR CS pls B z st)::(Pl,YG)::(Pp,Yx)::(Z,StopL pls)::(nl,Zv (NS.map V.str))::(vl,Zv us)::(tl,We J)::Δ) H':=fun S'=>((((((((S'.say tl (We J) fun h r=>⟨us2,r⟩).pull vl).pull nl).pull Z).pull Pp).pull Pl).pull r).pull p)
  refine ⟨_,rfl,p,_,3,_,rfl,S4.pull p,by omega,by decide,by decide,fun r2 H4 c0 c1 S5=>⟨rfl,_,rfl,Xy (fun c=>?_) (fun c=>?_)⟩⟩
  ·obtain ⟨ys,ey,hyl⟩:=S5.isl Z (inferInstance:IsLst (StopL pls) (pls.length+1))
   refine ⟨_,rfl,_,rfl,Z,_,rfl,.inl (SqL.of ey),p,_,_,_,rfl,S5.pull p,by omega,by omega,by omega,fun r3 H5 d0 d1 S6=>?_⟩
   obtain ⟨k3,rfl⟩:=GB d0
   have hk3:k3<=pls.length:=by omega
   have R:=S6.get r
   obtain ⟨la,ls,lt,lc,SR⟩:=id R
   obtain ⟨dxr,obr⟩:=SR.get r
   refine ⟨_,rfl,r,dxr,_,rfl,obr,Yq (by decide +kernel),_,rfl,r,pls,B,z,k3,rfl,⟨st,R⟩,hk3,?_⟩
   refine ⟨_,rfl,_,rfl,Z,pls,k3,NS,_,rfl,S6.pull Z,I.wf,hk3,by omega,hok,by omega,fun d H6 ps S7 hh hF=>?_⟩
   obtain ⟨g1,g2,_⟩:=I2.tr k3 _ _ hF (XL hk3)
   refine ⟨_,_,rfl,rest ((d,Dic (ps.map kP))::(tl,Vj J us2)::(r,Xn K CR CS pls B z st)::(Pl,YG)::(Pp,Yx)::(Z,StopL pls)::Δ) _ (VO pls k3) d ps _ H6 (by omega) ((((((((((S7.pull Z).pull Pp).pull Pl).pull r).pull tl).pull d).pull vl).pull nl).pull p)) (fun m H' S'=>?_) hh g1 g2⟩
   have ed9:=S'.get d
   exact ⟨ed9,backX ((((S'.drop d).pull vl).pull nl).pull p |>.pull tl)⟩
  ·refine rest ((tl,Vj J us2)::(r,Xn K CR CS pls B z st)::(Pl,YG)::(Pp,Yx)::(Z,StopL pls)::Δ) _ e.1 u.2 e.2 x10 H4 (by omega) (((S5.pull vl).pull nl).pull p) (fun m H' S'=>?_) hee.1 hee.2.1 hee.2.2
   have S'':=(((S'.pull vl).pull nl).pull p).pull tl
   exact ⟨((S'.get tl).2.2 k u e hu hek).2,backX S''⟩
 ·rintro σ H2 ⟨x7,x8,x9,x10,x11,x12,n2,B,z,J,rfl,S2,I2,hes2,he2,hel2,hnd2,htb2,hn2⟩
  have him:(1+(m0:Int)).toNat<=4:=by omega
  obtain ⟨us2,S3⟩:=(S2.pull tl).pastX
  obtain ⟨el2,hl2,_⟩:=S3.get tl
  refine ⟨_,rfl,tl,rfl,⟨_,SqL.of el2⟩,fun D hD=>?_⟩
  refine Vp (K:=K) (xs:=us2.map r1) (Yy (show _<=1000 by rw [length_map];omega)) (fun i zs H'=>Sep ((D,Zv zs)::(tl,Vj J us2)::(p,Bx n2)::(r,Xn K CR CS pls B z st)::(Pl,YG)::(Pp,Yx)::(Z,StopL pls)::(nl,Zv (NS.map V.str))::(vl,Zv us)::Δ) H'/\zs=(QJ i true).map V.bl) ⟨S3.new hD _,rfl⟩ ?_ ?_ ?_
  ·rintro i zs H' ⟨S4,rfl⟩;exact ⟨by simp,SqL.of (S4.get tl).1⟩
  ·rintro i v zs H' wa wb hv ⟨S4,rfl⟩
   rw [getElem?_map] at hv
   obtain ⟨u,hu,rfl⟩:=Gq.mp hv
   have hi:i < J.length:=by have:=(Qg.mp hu).1;omega
   have hek:=getElem?_eq_getElem hi
   have hee:=hes2 _ (QS hi)
   generalize J[i]=e at hek hee
   obtain ⟨et,ed⟩:=(S4.get tl).2.2 i u e hu hek
   obtain ⟨la,ls,lt,lc,S8⟩:=rxO (S4.pull r)
   obtain ⟨bb,ln,dt,SA⟩:=S8.get st
   obtain ⟨dxs,obs⟩:=SA.ob
   refine ⟨u.1,_,rfl,SqT.of et,rfl,_,_,rfl,_,_,rfl,rfl,⟨_,_,rfl⟩,?_⟩
   refine ⟨_,rfl,st,dxs,_,rfl,obs,ZM ln dt (by decide +kernel) (by decide +kernel),_,rfl,NS,st,B,z,e.1,lk e.2,_,N,rfl,(S8.pull Pp).pull st,hee.2.1,hee.2.2,fun fl H4 qs S9 hqs hsr=>?_⟩
   have S10:=rxC ((((((S9.pull lc).pull lt).pull ls).pull la).pull st).pull r)
   refine ⟨_,rfl,fl,u.2,NS,e.2,qs,rfl,hN,by omega,S10.get fl,((S10.get tl).2.2 i u e hu hek).2,hee.1,hqs,hsr,fun H5 s5=>?_⟩
   have S11:=(((((((((S10.mono s5).drop fl).pull vl).pull nl).pull Z).pull Pp).pull Pl).pull r).pull p).pull tl |>.pull D
   refine ⟨S11.get D,S11.put D _,?_⟩
   rw [Tn,map_append];rfl
  ·rintro zs H' ⟨S4,rfl⟩
   refine ⟨D,_,rfl,SqL.of (S4.get D),?_⟩
   rw [show ∀ k,(QJ k true).all id=true from fun k=>by simp]
   have S5:=(((((((((S4.drop D).say tl (We J) fun h r=>⟨us2,r⟩).pull vl).pull nl).pull Z).pull Pp).pull Pl).say r (XB K CR CS pls B z) fun h ⟨la,ls,lt,lc,G⟩=>⟨st,la,ls,lt,lc,G⟩).pull p)
   exact q n2 B z J H' S5 I2 hes2 he2 (by omega) (by omega) (by omega) (by omega)
end
end K24
namespace L2
open PySem
structure FG (K:Qa)(x:Str)(st:Stmt)(f:Addr)(fd:Qm):Prop where
 a:QB K Qv x=some (some (.ref f))
 F:Fun K x x st f fd
structure FM (K:Qa)(C:Addr)(x q:Str)(st:Stmt)(f:Addr)(fd:Qm):Prop where
 m:Vi K C x f
 F:Fun K x q st f fd
structure FGC (K:Qa)(x:Str)(st:Stmt)(f:Addr)(fd:Qm)(c Pl:Addr):Prop where
 a:QB K Qv x=some (some (.ref f))
 F:FunC K x x st f fd c Pl
structure FMC (K:Qa)(C:Addr)(x q:Str)(st:Stmt)(f:Addr)(fd:Qm)(c Pl:Addr):Prop where
 m:Vi K C x f
 F:FunC K x q st f fd c Pl
structure CH (K:Qa)(x:Str)(C:Addr):Prop where
 a:QB K Qv x=some (some (.ref C))
 c:Cls K C
 ms:RI K C=true
 kp:Jn K (.ref C)=true
structure Bs (P:Ql)(w:Qs)(K:Qa)(mg:Str->Option Qb)(base h:Heap):Prop where
 X:K.In h
 G:h.Ns Qv mg
section
variable {P:Ql}{w:Qs}{K:Qa}{mg:Str->Option Qb}{base h:Heap}{x q:Str}{st:Stmt}{f c Pl C:Addr}{fd:Qm}{k:Nat}{ps:List Str}{sp:Sp}{p1 p2 p3 p4 p5:Str}
theorem FG.df (g:FG K x st f fd)(e:Bs P w K mg base h)(o:FnOk P w K mg base ZJ k f fd ps sp)(b:Binds K fd ps []):Def P w K mg base k x ps sp:=⟨f,fd,o,b,g.F.kp,ON e.X e.G g.a⟩
theorem FGC.df (g:FGC K x st f fd c Pl)(e:Bs P w K mg base h)(o:FnOk P w K mg base ZJ k f fd ps sp)(b:Binds K fd ps []):Def P w K mg base k x ps sp:=⟨f,fd,o,b,g.F.kp,ON e.X e.G g.a⟩
theorem FM.df (g:FM K C x q st f fd)(_:Bs P w K mg base h)(o:FnOk P w K mg base ZJ k f fd ps sp)(b:Binds K fd ps []):DefM P w K mg base k C x ps sp:=⟨f,fd,o,b,g.m⟩
theorem FM.di (g:FM K C "__init__" q st f fd)(ch:CH K y C)(e:Bs P w K mg base h)(o:FnOk P w K mg base ZJ k f fd ps sp)(b:Binds K fd ps []):ZgP P w K mg base k C y ps sp:=⟨f,fd,o,b,⟨ch.ms,g.m.at_,g.m.fn,ch.kp⟩,ON e.X e.G ch.a⟩
abbrev BA (x q:Str)(st:Stmt)(us:List Qb)(r:List (Str×Qb)):Prop:=∀(kV doc pm:Qb)(an:Option Addr)(cdv ct:Qb),bindArgs (Po x q (Zaw st) (XO st) (Zk st) .none kV doc pm an cdv ct) ⟨us,[]⟩=pure r
theorem YM {z:Type}{us:List z}{n:Nat}(h:us.length=n+1):∃ u r,us=u::r/\r.length=n:=by
 cases us with
 | nil=>cases h
 | cons u r=>exact ⟨u,r,rfl,Nat.succ.inj h⟩
theorem Fun.b1 (F:Fun K x q st f fd)(h:∀ u,BA x q st [u] [(p1,u)]):Binds K fd [p1] []:=F.binds fun a b c d e g us B=>by
 obtain ⟨u,us,rfl,C⟩:=YM B
 cases eq_nil_of_length_eq_zero C;exact h u a b c d e g
theorem Fun.b2 (F:Fun K x q st f fd)(h:∀ u v,BA x q st [u,v] [(p1,u),(p2,v)]):Binds K fd [p1,p2] []:=F.binds fun a b c d e g us B=>by
 obtain ⟨u,us,rfl,C⟩:=YM B
 obtain ⟨v,us,rfl,D⟩:=YM C
 cases eq_nil_of_length_eq_zero D;exact h u v a b c d e g
theorem Fun.b3 (F:Fun K x q st f fd)(h:∀ u v y,BA x q st [u,v,y] [(p1,u),(p2,v),(p3,y)]):Binds K fd [p1,p2,p3] []:=F.binds fun a b c d e g us B=>by
 obtain ⟨u,us,rfl,C⟩:=YM B
 obtain ⟨v,us,rfl,D⟩:=YM C
 obtain ⟨y,us,rfl,E⟩:=YM D
 cases eq_nil_of_length_eq_zero E;exact h u v y a b c d e g
theorem Fun.b4 (F:Fun K x q st f fd)(h:∀ u v y z,BA x q st [u,v,y,z] [(p1,u),(p2,v),(p3,y),(p4,z)]):Binds K fd [p1,p2,p3,p4] []:=F.binds fun a b c d e g us B=>by
 obtain ⟨u,us,rfl,C⟩:=YM B
 obtain ⟨v,us,rfl,D⟩:=YM C
 obtain ⟨y,us,rfl,E⟩:=YM D
 obtain ⟨z,us,rfl,W⟩:=YM E
 cases eq_nil_of_length_eq_zero W;exact h u v y z a b c d e g
theorem Fun.b5 (F:Fun K x q st f fd)(h:∀ u v y z J,BA x q st [u,v,y,z,J] [(p1,u),(p2,v),(p3,y),(p4,z),(p5,J)]):Binds K fd [p1,p2,p3,p4,p5] []:=F.binds fun a b c d e g us B=>by
 obtain ⟨u,us,rfl,C⟩:=YM B
 obtain ⟨v,us,rfl,D⟩:=YM C
 obtain ⟨y,us,rfl,E⟩:=YM D
 obtain ⟨z,us,rfl,W⟩:=YM E
 obtain ⟨J,us,rfl,Z⟩:=YM W
 cases eq_nil_of_length_eq_zero Z;exact h u v y z J a b c d e g
theorem ZiI (F:Fun K x q st f fd)(h:∀ u,BA x q st [u] [(p1,u)])(s:Qf)(v:Qb):Ov s fd ⟨[v],[]⟩ [(p1,v)]:=by
 obtain ⟨oc,od,kV,B,Z,J,z,D,W,rfl,lk,Y⟩:=F.ex
 exact .of_eq (h v kV B Z J z D)
end
end L2
namespace L2
open PySem PySem.W PySem.Spec PyProof.Rows
theorem Uo (h:YA x)(g:YA y):YA (x++y):=fun c z=>by
 rw [Uz] at z
 exact (mem_append.mp z).elim (h c) (g c)
theorem Zgb:∀(ts:List Str)(k:Nat)(z:Str),(∀ t∈ts,YA t)->YA z->YA (NR k z ts)
 | [],_,z,_,h=>h
 | t::r,k,z,h,g=>Zgb r (k+1) _ (fun x B=>h x (mem_cons_of_mem _ B)) (Uo (Uo g (Wp _)) (h t mem_cons_self))
theorem Zau (h:∀ d∈ds,YA d.shown):YA (Tl ds).shown:=by
 show YA (listText (Jz ds))
 rw [XI]
 exact Uo (Zgb _ _ _ (fun t B=>by obtain ⟨d,z,rfl⟩:=mem_map.mp B;exact h d z) (Wp _)) (Wp _)
theorem Zgc (z:YA s):∀ ts:List Str,(∀ t∈ts,YA t)->YA (Str.join s ts)
 | [],_=>Wp ""
 | [t],h=>h t mem_cons_self
 | t::u::r,h=>Uo (Uo (h t mem_cons_self) z) (Zgc z (u::r) fun x B=>h x (mem_cons_of_mem _ B))
theorem Vq (h:∀ d∈ds,YA d.shown):YA (PyData.tuple ds).shown:=by
 show YA (Mq (Jz ds))
 rw [XI]
 exact Uo (Uo (Wp _) (Zgc (Wp _) _ fun t B=>by obtain ⟨d,z,rfl⟩:=mem_map.mp B;exact h d z)) (Wp _)
theorem ZbK (i:Int):YA (Ji i).shown:=Wp _
theorem Zms:∀ c:_root_.Fin 128,(∀ d∈QQ 34 c.val,d < 1114112)/\∀ d∈QQ 39 c.val,d < 1114112:=by decide +kernel
theorem Zga {q:Nat}(D:q=34\/q=39):∀(l:List Nat)(out:Array Nat),(∀ c∈l,c < 128)->(∀ d∈out.toList,d < 1114112)->∀ d∈(l.foldl (fun out c=>out++(QQ q c).toArray) out).toList,d < 1114112
 | [],out,_,h=>h
 | c :: l,out,hl,h=>Zga D l _ (fun d B=>hl d (mem_cons_of_mem _ B)) fun d B=>by
  rw [Array.toList_append] at B
  rcases mem_append.mp B with y | y
  ·exact h d y
  ·have z:=Zms ⟨c,hl c mem_cons_self⟩
   rcases D with rfl | rfl
   ·exact z.1 d y
   ·exact z.2 d y
theorem ZeD (h:∀ c∈x.cps.toList,c < 128):YA (PY x).shown:=by
 show YA (reprText x)
 have J:JP x=34\/JP x=39:=by unfold JP;split<;>simp
 intro d B
 have B:d∈((Array.foldl (fun out c=>out++(QQ (JP x) c).toArray) #[JP x] x.cps).push (JP x)).toList:=B
 rw [SE,<- Nn] at B
 have D:JP x < 1114112:=by rcases J with z | z<;>rw [z]<;>decide
 rcases mem_append.mp B with y | y
 ·exact Zga J _ _ h (fun e W=>by rw [mem_singleton.mp W];exact D) d y
 ·rw [mem_singleton.mp y];exact D
theorem ZgZ (h:NvV v):YA (Zbt v).shown:=by
 rcases h with rfl | h
 ·exact Wp _
 ·cases v with
  | int i=>exact ZbK i
  | str x =>
   refine ZeD fun c z=>?_
   have:=all_eq_true.mp h.2 c z
   unfold sgn at this
   simp at this;omega
  | _=>exact h.elim
theorem ZcG (h:Yt x):YA (PY x).shown:=ZeD fun c z=>by
 have:=all_eq_true.mp h.2.2 c z
 unfold WD at this
 simp only [QO,decide_eq_true_eq] at this
 omega
theorem Fun.b6 {K:Qa}{x q:Str}{st:Stmt}{f:Addr}{fd:Qm}{p1 p2 p3 p4 p5 p6:Str}(F:Fun K x q st f fd)(h:∀ u v y z J k,BA x q st [u,v,y,z,J,k] [(p1,u),(p2,v),(p3,y),(p4,z),(p5,J),(p6,k)]):Binds K fd [p1,p2,p3,p4,p5,p6] []:=F.binds fun a b c d e g us B=>by
 obtain ⟨u,us,rfl,C⟩:=YM B
 obtain ⟨v,us,rfl,D⟩:=YM C
 obtain ⟨y,us,rfl,E⟩:=YM D
 obtain ⟨z,us,rfl,W⟩:=YM E
 obtain ⟨J,us,rfl,Z⟩:=YM W
 obtain ⟨k,us,rfl,Y⟩:=YM Z
 cases eq_nil_of_length_eq_zero Y;exact h u v y z J k a b c d e g
end L2
namespace K24
open PySem L2
section
variable {P:Ql}{w:Qs}{K:Qa}{mg:Str->Option Qb}{base:Heap}{CR CS Pl Pp:Addr}
theorem ZjA {NS:List Str}{pls:List ZE}{nds:List Nd}{D:List (Zj×V)}(J:∀ x∈NS,Yt x)(I:RInv NS pls nds D)(z:XC NS pls):∀ n,n<=pls.length+1->∀ d∈shD NS pls n,YA d.shown
 | 0,_=>fun d hd=>nomatch hd
 | n + 1,hn=>fun d hd=>by
  have i2:=ZjA J I z n (by omega)
  have hk:n<=pls.length:=by omega
  obtain ⟨eF,W⟩:=ZeJ I hk
  unfold shD at hd
  rcases mem_append.mp hd with hd | hd
  ·rcases mem_append.mp hd with hd | hd
   ·exact i2 d hd
   rw [mem_singleton.mp hd]
   refine Vq fun d hd=>?_
   rcases mem_cons.mp hd with rfl | hd
   ·refine Zau fun d hd=>?_
    obtain ⟨m,hm,rfl⟩:=mem_map.mp hd
    exact ZbK _
   rcases mem_cons.mp hd with rfl | hd
   ·cases n with
    | zero=>exact Wp _
    | succ n =>
     have e:=getElem?_eq_getElem (show n < pls.length by omega)
     have B:=z _ (mem_of_getElem? e)
     have eg:sD pls (n+1)=Zdg pls[n].st:=by show Zdg (pls.getD n _).st=_;rw [getD_eq_getElem?_getD,e];rfl
     rw [eg]
     revert B
     generalize pls[n].st=s
     intro B
     have lt:∀ x∈(["set","clear"]:List Str),YA (PY x).shown:=fun x hx=>ZeD fun c hc=>of_decide_eq_true (all_eq_true.mp (Zdj x hx).1 c hc)
     cases s with
     | set x v =>
      refine Vq fun d hd=>?_
      rcases mem_cons.mp hd with rfl | hd
      ·exact lt _ (by simp)
      rcases mem_cons.mp hd with rfl | hd
      ·exact ZcG (J x B.1)
      rw [mem_singleton.mp hd];exact ZgZ (.inr B.2)
     | clr x =>
      refine Vq fun d hd=>?_
      rcases mem_cons.mp hd with rfl | hd
      ·exact lt _ (by simp)
      rw [mem_singleton.mp hd];exact ZcG (J x B)
   rcases mem_cons.mp hd with rfl | hd
   ·exact ZbK _
   rcases mem_cons.mp hd with rfl | hd
   ·obtain ⟨Z,g2⟩:=Zjj NS (envF pls n)
    refine Zau fun d hd=>?_
    obtain ⟨p,hp,rfl⟩:=mem_map.mp hd
    refine Vq fun d hd=>?_
    rcases mem_cons.mp hd with rfl | hd
    ·exact ZcG (J _ (Z p hp).1)
    rw [mem_singleton.mp hd];exact ZgZ (.inr (W _ _ (Z p hp).2))
   rw [mem_singleton.mp hd]
   exact ZbK _
  ·rw [mem_singleton.mp hd]
   refine Zau fun d hd=>?_
   obtain ⟨v,Y,rfl⟩:=mem_map.mp hd
   unfold lkV at Y
   obtain ⟨x,_,rfl⟩:=mem_map.mp Y
   cases e:envF pls n x with
   | none=>exact Wp _
   | some u=>exact ZgZ (.inr (W x u e))
noncomputable abbrev stT (NS:List Str) (pls:List ZE):Str:=(Tl (shD NS pls (pls.length+1))).shown
theorem ZoW (D:∀ x∈NS,Yt x)(I:RInv NS pls nds z)(B:XC NS pls):YA (stT NS pls):=Zau (ZjA D I B _ (Qe _))
inductive Zdc (Pl Pp:Addr)(vs:List V)(H:Hp)(Q:VK)(w_3:XK):Prop
 | mk (p:Addr) (Δ:Rs):vs=[.ref p]->Sep ((p,Bx 0)::(Pl,YG)::(Pp,Yx)::Δ) H->(∀ H',Sep ((Pl,YG)::(Pp,Yx)::Δ) H'->Q (.bl true) H')->Zdc Pl Pp vs H Q w_3
abbrev nRi:List Str:=["_law_box_here","_law_names_here","_law_values_here","_law_roads","_law_other","_law_stops","_law_tables","_law_kept","_law_turn","_law_stand_here"]
abbrev Zlc:List Str:=["_law_box_here"]
theorem scRi:Zp nRi Zlc (Zk s_l_right):={}
theorem ZkJ (F:Fun K "_law_right" "_law_right" s_l_right f fd)(T:Yl mg)(TR:Xo K CR)(TC:YY K CS)(DT:DTk P w K mg base 1)(DP:Def P w K mg base 14 "_law_pool" Zlb Zdb)(DVs:Def P w K mg base 14 "_law_values" Zlf Zbr)(DRd:ZgP P w K mg base 13 CR "Roads" Zhy (ZcZ K CR CS))(DFr:Def P w K mg base 14 "_law_from" ZkX Zfv)(DSt:Def P w K mg base 14 "_law_step" ZhE Zcs)(DGr:Def P w K mg base 14 "_law_grown" ZkY (ZcY K CR CS Pl))(DLr:Def P w K mg base 14 "_law_last_right" ZkZ (Zlz K CR CS Pp))(DSd:Def P w K mg base 14 "_law_stand" Zle (ZlA K CR CS Pp))(DBs:Def P w K mg base 14 "_law_besides" ZkW (Zlx K CR CS Pl Pp))(DR_put:DefM P w K mg base 14 CR "put" Zee (Zcr K CR CS Pl))(DR_store:DefM P w K mg base 14 CR "store" Zef (Zel CR))(DS_made:DefM P w K mg base 14 CS "made" ["self"] (Zcq K CS)):FnOk P w K mg base ZJ 15 f fd Zlc (Zdc Pl Pp):=by
 refine F.ok scRi (fun cdv A outer s H vs Q E hr h=>?_)
 obtain ⟨p,Δ,rfl,S,q⟩:=h
 have hr1:=hr.mono (show 1<=14 by decide)
 refine' ⟨?t,?h,?r⟩
 case h =>
  conv=>arg 2;whnf
  with_reducible refine' (Ze ?h1 (Ze ?h2 (Ze ?h3 (Ze ?h4 (Ze ?h5 (Ze (Wt ?h6 ?h7 ?h8 ?h9 (Ze (Yi ?h10 (Zg ?h11) ZV) (Ze (Yi ?h12 (Zg ?h13) ZV) (Zg (Yi ?h14 (Ze ?h15 (Ze (Yi ?h16 (Zg ?h17) ZV) (Zg (Yi ?h18 (Zg ?h19) ZV)))) ZV)))) ?h20) (Zg ?h21)))))))
  case h1=>exact Zck (i:=1) (j:=2) rfl scRi.nd rfl rfl (by decide) rfl rfl (Zb (ZA DP hr (Zb (pv 0) (Zb (Zt Yu Zd (ZA DT hr1 (Zb (pv 0) (Zb Zd Za)))) Za))) (Zb (ZA DVs hr (Zb (pv 0) Za)) Za)) rfl
  case h2=>exact Zx (i:=2) scRi.nd rfl (Qy rfl) (Zt Zfd (pv 2) (Yh (Zb (Zo ZD (pv 1) Zd (fun _ _=>rfl)) (Zb (Zo ZD (pv 1) (Zhs ZfE Zd) (fun _ _=>rfl)) (Zb ZU (Zb ZU Za))))))
  case h3=>exact XH (YQ (Zb (Zhr DRd hr) (Zb (Zhr DRd hr) (Zb (Yh (Zb (YQ (Zb UZ (Zb UZ Za))) Za)) (Zb (Yh (Zb (YQ (Zb Zd (Zb Zff Za))) Za)) Za))))) (Ws rfl (Yb (ZI (i:=3) scRi.nd rfl (Qy rfl)) (Yb (ZI (i:=4) scRi.nd rfl (Qy rfl)) (Yb (ZI (i:=5) scRi.nd rfl (Qy rfl)) (Yb (ZI (i:=6) scRi.nd rfl (Qy rfl)) XS)))))
  case h4=>exact ZY (ZT DR_put TR.cl hr (pv 4) (Zb Zd (Zb (Zo ZD (pv 1) Zd (fun _ _=>rfl)) (Zb (Zo ZD (pv 2) Zd (fun _ _=>rfl)) Za))))
  case h5=>exact Zx (i:=7) scRi.nd rfl (Qy rfl) (Yh (Zb (ZA DSd hr (Zb (pv 4) (Zb (pv 1) Za))) (Zb (Ud DS_made TC.cl hr (Ud DR_store TR.cl hr (pv 4))) Za)))
  case h6=>exact Ga
  case h7=>exact rfl
  case h8=>exact Xj rfl T.range (Zb (ZA DT hr1 (Zb (pv 0) (Zb Zd Za))) Za)
  case h9=>exact ZI (i:=8) scRi.nd rfl (Qy rfl)
  case h10=>exact Zcl (Wu (ZA DGr hr (Zb (pv 3) (Zb (pv 5) (Zb (ZA DFr hr (Zb (pv 0) (Zb (pv 5) Za))) (Zb (ZA DSt hr (Zb (pv 0) (Zb (pv 1) (Zb (pv 2) Za)))) Za))))))
  case h11=>exact Zn Uc
  case h12=>exact Zcl (Wu (ZA DLr hr (Zb (pv 3) (Zb (pv 5) Za))))
  case h13=>exact Zn Uc
  case h14=>exact ZP Yo (Zt Xq (pv 8) Zd) Zd (ZH _)
  case h15=>exact Zx (i:=9) scRi.nd rfl (Qy rfl) (ZA DSd hr (Zb (pv 3) (Zb (pv 1) Za)))
  case h16=>exact Zcl (Wu (ZA DBs hr (Wz (pv 0) (Wz (pv 3) (Wz (pv 5) (Wz (pv 1) (Wz (pv 2) (Wz (pv 6) Za rfl) rfl) rfl) rfl) rfl) rfl)))
  case h17=>exact Zn Uc
  case h18=>exact ZP Zce (ZA DSd hr (Zb (pv 3) (Zb (pv 1) Za))) (pv 9) (ZH _)
  case h19=>exact Zn Uc
  case h20=>exact fun _=>rfl
  case h21=>exact Zn (YK (Zja hr.units) (Yh (Zb (ZA DSd hr (Zb (pv 4) (Zb (pv 1) Za))) (Zb (Ud DS_made TC.cl hr (Ud DR_store TR.cl hr (pv 4))) Za))) (pv 7) (ZH _))
 try dsimp only [ZR,Cx.nox]
 refine zs7 ?_
 intro zD zS zN6 zN5 zN4 zN3 zN2 zN1
 refine ⟨_,rfl,_,rfl,p,0,12,_,rfl,S,by decide,by decide,by decide,fun r1 H1 a0 a1 S1=>⟨_,_,rfl,rfl,p,_,_,_,rfl,S1,by omega,by omega,by omega,fun Y H2 xs S2 hx1 hx2 hnd hnm _=>?_⟩⟩
 refine ⟨_,rfl,p,_,_,rfl,S2.pull p,by omega,fun vl H3 us S3 hul huv=>⟨_,_,rfl,?_⟩⟩
 have hxn:xs≠[]:=length_pos_iff.mp (by omega)
 have hx12:xs.length<=12:=by omega
 have N:ZZ xs:=ZpB (by omega) hnm
 obtain ⟨z0,hz0,at0⟩:=ZiP (f:=V.str) (xs:=xs) (r:=0) (by decide) (by omega)
 obtain ⟨v9,hv9,at9⟩:=ZnR (xs:=xs.map V.str) (fun z=>hxn (List.map_eq_nil_iff.mp z))
 obtain ⟨z9,hz9,rfl⟩:=mem_map.mp hv9
 refine ⟨_,rfl,_,rfl,Y,_,_,_,rfl,rfl,SqL.of (S3.get Y),at0,_,rfl,_,rfl,Y,_,_,_,rfl,rfl,SqL.of (S3.get Y),at9,(by show 4<=Qi;decide),fun l1 hl1=>?_⟩
 generalize hE:upd H3 l1 _=H4
 have S4:=S3.newE hl1 hE
 clear hE
 refine ⟨vl,l1,_,_,rfl,rfl,S4.get vl,S4.get l1,Yy (show us.length+4<=1000 by omega),fun l2 hl2=>?_⟩
 generalize hE:upd H4 l2 _=H5
 have S5:=(((S4.newE hl2 hE).drop l1).drop vl)
 clear hE
 have hUv:∀ u∈us++[V.str z0,V.str z9,V.str "set",V.str "clear"],IsVal u:=fun u hu=>by
  rcases mem_append.mp hu with y | y
  ·exact huv u y
  ·rcases mem_cons.mp y with rfl | y
   ·exact ZeX (hnm _ hz0)
   rcases mem_cons.mp y with rfl | y
   ·exact ZeX (hnm _ hz9)
   ·have all:([.str "set",.str "clear"]:List V).all Zcw=true:=by decide +kernel
    exact Vu (all_eq_true.mp all u y)
 have hUl:(us++[V.str z0,V.str z9,V.str "set",V.str "clear"]).length=9:=by rw [length_append,hul];rfl
 generalize hU:us++[V.str z0,V.str z9,V.str "set",V.str "clear"]=U at *
 intro r dx hrr hdx hne
 refine ⟨r,dx,_,_,rfl,rfl,hrr,hdx,hne,S5,fun H6 S6=>⟨rfl,?_⟩⟩
 intro W dx2 hrr2 hdx2 hne2
 refine ⟨W,dx2,_,_,rfl,rfl,hrr2,hdx2,hne2,S6,fun H7 S7=>⟨rfl,?_⟩⟩
 refine ⟨(by show 2<=Qi;decide),fun t0 ht0=>⟨(by show 1<=Qi;decide),fun sl hsl=>fun d0 hd0=>⟨(by show 2<=Qi;decide),fun u0 hu0=>⟨(by show 1<=Qi;decide),fun tl htl=>⟨(by show 4<=Qi;decide),fun tt htt=>⟨tt,_,rfl,SqT.of Zi,rfl,_,_,rfl,_,_,rfl,_,_,rfl,_,_,rfl,rfl,?_⟩⟩⟩⟩⟩⟩
 generalize hE:upd (upd (upd (upd (upd (upd H7 t0 _) sl _) d0 _) u0 _) tl _) tt _=H8
 have S8:=((((((S7.new ht0 _).new hsl _).new hd0 _).new hu0 _).new htl _).newE htt hE).tail
 clear hE
 have S9:=(S8.pull sl).pull t0 |>.pull sl
 have S10:=((Zjy S9 (S9.get t0) rfl).say sl (StopL []) fun h ⟨z1,z2⟩=>⟨[t0],z1,rfl,fun a e=>by cases (show some t0=some a from e);exact z2,fun i a q e1 e2=>by simp at e2⟩).drop t0
 clear S9 S8 S7 S6 S5 S4 S3 S2 S1 S
 have S11:=Sep.pack (a:=tl) (R:=We [(0,[])]) (Γ:=[(tl,Zv [V.ref u0]),(u0,Tup [.int (0:Nat),.ref d0]),(d0,Dic [])]) (((S10.pull d0).pull u0).pull tl) fun h G=>by
  refine ⟨[(u0,d0)],G.get tl,rfl,fun i u e e1 e2=>?_⟩
  cases i with
  | zero=>cases e1;cases e2;exact ⟨G.get u0,G.get d0⟩
  | succ i=>simp at e1
 clear S10
 obtain ⟨v0,hv0,atU⟩:=ZcM (xs:=U) (r:=0) (by decide) (by omega)
 obtain ⟨stA,laA,lsA,ltA,lcA,SA⟩:=S11.get W
 obtain ⟨dxA,obA⟩:=SA.get W
 refine ⟨_,rfl,W,dxA,_,rfl,obA,Yq (by decide +kernel),_,rfl,Y,_,_,_,rfl,rfl,SqL.of (S11.get Y),at0,_,rfl,l2,_,_,_,rfl,rfl,SqL.of (S11.get l2),atU,xs,W,[],_,_,0,z0,v0,_,rfl,N,(S11.pull Pl).pull W,ZhI,⟨hz0,hUv _ hv0⟩,Qw _,by decide,by decide,by decide,fun H9 D Z tB S12 IB _ lB1 lB2=>?_⟩
 have hokB:XC xs (([]:List ZE)++[(⟨0,.set z0 v0,tB,D.length - [Nd.bare].length⟩:ZE)]):=fun q hq=>by
  rw [mem_singleton.mp hq];exact ⟨hz0,hUv _ hv0⟩
 have hplB:(([]:List ZE)++[(⟨0,.set z0 v0,tB,D.length - [Nd.bare].length⟩:ZE)]).length=1:=rfl
 have hndB:D.length<=7:=lB1
 generalize ([]:List ZE)++[(⟨0,.set z0 v0,tB,D.length - [Nd.bare].length⟩:ZE)]=J at *
 clear S11 SA obA
 refine ⟨_,rfl,_,rfl,xs,W,Y,J,D,Z,_,rfl,N,hnm,by omega,((S12.pull Pp).pull W).pull Y,IB,hokB,by omega,by omega,fun H10 S13=>?_⟩
 obtain ⟨stB,laB,lsB,ltB,lcB,SB⟩:=S13.get W
 obtain ⟨dxB,obB⟩:=SB.get W
 have STB:=SB.get stB
 obtain ⟨bB,lnB,dtB,SAB⟩:=id STB
 obtain ⟨dxsB,obsB⟩:=SAB.ob
 refine ⟨_,rfl,W,dxB,_,rfl,obB,Yq (by decide +kernel),W,stB,laB,lsB,ltB,lcB,dxB,rfl,obB,stB,dxsB,_,rfl,obsB,ZM lnB dtB (by decide +kernel) (by decide +kernel),stB,D,Z,rfl,STB,(by show 2<=Qi;decide),fun kl hkl=>?_⟩
 generalize hE:upd H10 kl _=H11
 have S14:=S13.newE hkl hE
 clear hE S13 S12 SB obB STB SAB obsB bB
 refine ⟨_,rfl,p,_,41,_,rfl,S14.pull p,by omega,by decide,by decide,fun m H12 b0 b1 S15=>?_⟩
 obtain ⟨m0,rfl⟩:=GB b0
 refine ⟨(m0:Int),rfl,by omega,by omega,?_⟩
 have hUn:U≠[]:=length_pos_iff.mp (by omega)
 have hes0:EsOk xs [Nd.bare] [(QD 0,V.bl true)] [(0,[])]:=fun e he=>by
  rw [mem_singleton.mp he]
  obtain ⟨g1,g2,_⟩:=(ZhI (NS:=xs)).tr 0 _ 0 (env0 []) rfl
  exact ⟨⟨nodup_nil,fun _ h=>nomatch h⟩,g1,g2⟩
 refine WQ (fun i σ H'=>∃ x8 x9 pls nds tabs es n,σ=[some (.ref p),some (.ref Y),some (.ref l2),some (.ref r),some (.ref W),some (.ref sl),some (.ref tl),some (.ref kl),x8,x9]/\Sep ((p,Bx n)::(r,XB K CR CS pls nds tabs)::(Pl,YG)::(Pp,Yx)::(sl,StopL pls)::(Y,Zv (xs.map V.str))::(l2,Zv U)::(tl,We es)::(W,XB K CR CS J D Z)::(kl,Zv [.str (stT xs J),.int (D.length:Int)])::Δ) H'/\RInv xs pls nds tabs/\XC xs pls/\pls.length=i/\EsOk xs nds tabs es/\es≠[]/\es.length<=1+4 * i/\nds.length<=1+30 * i/\tabs.length<=1+5 * i/\n<=1000+40 * i)
  ⟨_,_,[],_,_,[(0,[])],_,rfl,(((((((((S15.pull kl).pull W).pull tl).pull l2).pull Y).pull sl).pull Pp).pull Pl).pull r).pull p,ZhI,(fun _ h=>nomatch h),rfl,hes0,by simp,by decide,by decide,by decide,by omega⟩ ?_ ?_
 ·rintro i σ H13 hi ⟨x8,x9,pls,nds,tabs,es,n,rfl,S16,I,hok,hpl,hes,he0,hel,hnd,htb,hn⟩
  have hi41:i < 41:=by omega
  refine ⟨_,rfl,_,rfl,_,rfl,_,rfl,p,sl,n,pls.length+1,StopL pls,_,rfl,(S16.pull sl).pull p,inferInstance,by omega,by omega,by omega,fun kk H14 hkk S17=>?_⟩
  refine ⟨_,rfl,_,rfl,_,rfl,p,Y,l2,_,xs,U,_,rfl,((S17.pull l2).pull Y).pull p,hxn,hUn,by omega,by omega,hUv,by omega,fun t H15 s hs S18=>?_⟩
  refine ⟨xs,r,sl,t,pls,nds,tabs,kk,s,_,rfl,N,((S18.pull sl).pull Pl).pull r,S18.get t,I,hs,by omega,by omega,by omega,by omega,fun H16 nds' tabs' q' S19 I19 gw l1' l2' hq=>⟨_,rfl,ZN ?_⟩⟩
  have hok':=ZhU hok hq
  have hpl':(pls++[q']).length=i+1:=by rw [length_append,hpl];rfl
  have hes':EsOk xs nds' tabs' es:=fun e he=>have g:=hes e he;⟨g.1,gw.2 _ g.2.1,g.2.2.mono _ gw.1⟩
  have S20:=(S19.drop t).pull Pp |>.pull r
  clear S16 S17 S18 S19
  refine ⟨_,rfl,_,rfl,xs,r,sl,pls++[q'],nds',tabs',i,_,rfl,N,by omega,hnm,((S20.pull sl).pull Pp).pull r,I19,hok',hpl',by omega,fun H17 S21=>⟨_,rfl,ZN ?_⟩⟩
  clear S20
  refine ⟨_,rfl,_,_,rfl,rfl,(by show (0:Int) < 5;decide),rfl,_,rfl,Xy (fun c=>?_) (fun c=>?_)⟩
  ·refine ⟨_,rfl,_,rfl,xs,r,Y,pls++[q'],nds',tabs',_,rfl,N,hnm,by omega,((S21.pull Pp).pull r).pull Y,I19,hok',by omega,by omega,fun H18 S22=>?_⟩
   refine ⟨_,rfl,_,rfl,_,rfl,_,rfl,_,rfl,_,rfl,xs,p,r,sl,Y,l2,tl,pls++[q'],nds',tabs',U,es,_,_,rfl,(((((((S22.pull tl).pull l2).pull Y).pull sl).pull Pp).pull Pl).pull r).pull p,N,hnm,hxn,by omega,hUn,by omega,hUv,I19,hok',hes',he0,by omega,by omega,by omega,by omega,by omega,fun n3 nds3 tabs3 es3 H19 S23 I23 hes3 he3 hel3 hnd3 htb3 hn3=>⟨_,rfl,ZN ?_⟩⟩
   refine ⟨_,rfl,_,rfl,xs,r,Y,pls++[q'],nds3,tabs3,_,rfl,N,hnm,by omega,((S23.pull Pp).pull r).pull Y,I23,hok',by omega,by omega,fun H20 S24=>?_⟩
   refine ⟨_,rfl,rfl,_,rfl,?_⟩
   have eqN:∀ {A B:Prop},B->if (!decide (V.str (stT xs (pls++[q']))=V.str (stT xs (pls++[q']))))=true then A else B:=fun b=>by rw [decide_eq_true rfl];exact b
   refine eqN ⟨_,_,pls++[q'],nds3,tabs3,es3,_,rfl,(((((((((S24.pull kl).pull W).pull tl).pull l2).pull Y).pull sl).pull Pp).pull Pl).pull r).pull p,I23,hok',hpl',hes3,he3,by omega,by omega,by omega,by omega⟩
  ·exact ⟨_,_,pls++[q'],nds',tabs',es,_,rfl,(((((((((S21.pull kl).pull W).pull tl).pull l2).pull Y).pull sl).pull Pp).pull Pl).pull r).pull p,I19,hok',hpl',hes',he0,by omega,by omega,by omega,by omega⟩
 ·rintro σ H13 ⟨x8,x9,pls,nds,tabs,es,n,rfl,S16,I,hok,hpl,hes,he0,hel,hnd,htb,hn⟩
  refine ⟨_,rfl,_,rfl,xs,W,Y,J,D,Z,_,rfl,N,hnm,by omega,((S16.pull Pp).pull W).pull Y,IB,hokB,by omega,by omega,fun H14 S17=>?_⟩
  obtain ⟨stB,laB,lsB,ltB,lcB,SB⟩:=S17.get W
  obtain ⟨dxB,obB⟩:=SB.get W
  have STB:=SB.get stB
  obtain ⟨bB,lnB,dtB,SAB⟩:=id STB
  obtain ⟨dxsB,obsB⟩:=SAB.ob
  refine ⟨_,rfl,W,dxB,_,rfl,obB,Yq (by decide +kernel),W,stB,laB,lsB,ltB,lcB,dxB,rfl,obB,stB,dxsB,_,rfl,obsB,ZM lnB dtB (by decide +kernel) (by decide +kernel),stB,D,Z,rfl,STB,(by show 2<=Qi;decide),fun kl2 hkl2=>?_⟩
  generalize hE:upd H14 kl2 _=H15
  have S18:=S17.newE hkl2 hE
  clear hE
  have dd:∀ {l:Addr},H15 l=some (.lst [.str (stT xs J),.int (D.length:Int)])->DataOf H15 (.ref l) (.list [.str (stT xs J),.int (D.length:Int)]):=fun e=>.lst e (.cons (.str _) (.cons (.int _) .nil))
  have lay:(Tl [.str (stT xs J),.int (D.length:Int)]).canLay0=true:=by
   show (NT (stT xs J)&&true)=true
   rw [ZlQ (ZoW hnm IB hokB)];rfl
  refine ⟨_,rfl,_,_,dd (S18.get kl2),dd (S18.get kl),lay,lay,(by simp [NU,Ge]),?_⟩
  rw [SeqAt.eqv_refl _ lay]
  exact q H15 ((((((((((S18.drop kl2).drop kl).drop W).drop tl).drop l2).drop Y).drop sl).drop r).drop p).pull Pp |>.pull Pl)
end
section
variable {P:Ql}{w:Qs}{K:Qa}{mg:Str->Option Qb}{base:Heap}{CR CS Pl Pp:Addr}
inductive Zcp (K:Qa)(Pl Pp:Addr)(vs:List V)(H:Hp)(Q:VK)(w_3:XK):Prop
 | mk (a:Addr) (ns:List Int):vs=[.ref a]->SqL K H a (ns.map V.int)->ns.length<=63->LamAt H Pl YV XV->LamAt H Pp XQ Wv->Pl≠Pp->(∀ H',Q (.bl true) H')->Zcp K Pl Pp vs H Q w_3
abbrev nLw:List Str:=["_law_script"]
abbrev pnLw:List Str:=["_law_script"]
theorem scLw:Zp nLw pnLw (Zk s_law):={}
theorem Zow (F:Fun K "law" "law" s_law f fd)(T:Yl mg)(DB:Def P w K mg base 15 "_law_box" ["_law_script","_law_k"] (Zcn K))(B:Def P w K mg base 15 "_law_right" Zlc (Zdc Pl Pp)):FnOk P w K mg base ZJ 16 f fd pnLw (Zcp K Pl Pp):=by
 refine F.ok scLw (fun cdv A outer s H vs Q E hr h=>?_)
 obtain ⟨a,ns,rfl,hS,h63,hL,hP,W,q⟩:=h
 have S:=Zjz hS hL hP W
 refine' ⟨?t,?h,?r⟩
 case h =>
  conv=>arg 2;whnf
  with_reducible refine' (Zg ?h1)
  case h1=>exact Zn (Zz (ZaW rfl) rfl T.all (by decide +kernel) (Zb (WE (CompOk.of nLw s_law rfl rfl (by decide +kernel)) rfl (Xj rfl T.range (Zb (Zt Yu Zd (Zz (Zik rfl) rfl T.min (by decide +kernel) (Zb Zd (Zb (Zz ZL rfl T.len QM (Zb (pv 0) Za)) Za)))) Za))  (fun _ _ _ _ _=>ZA B hr (Zb (ZA DB hr (Zb (pv 0) (Zb (pv 1) Za))) Za))) Za))
 try dsimp only [ZR,Cx.nox]
 refine ⟨_,rfl,a,_,rfl,.inl hS,_,_,rfl,_,_,rfl,rfl,?_⟩
 rw [length_map]
 generalize hm:(1:Int)+(if ((ns.length:Nat):Int) < 3 then ((ns.length:Nat):Int) else 3)=m
 have hm9:0<=m/\m<=9:=by rw [<- hm];split<;>omega
 refine ⟨m,rfl,by omega,by omega,fun D hD=>?_⟩
 refine UK (by exact Qr (show _<=1000 by omega) (by decide)) S hD (fun i Y z=>Y=(QJ i true).map V.bl/\z=[(Pl,YG),(Pp,Yx),(a,ScR K ns)]) ⟨rfl,rfl⟩ ?_ ?_
 ·rintro i Z z H' hi hl ⟨rfl,rfl⟩ S'
  refine ⟨_,rfl,_,rfl,a,ns,_,_,rfl,S'.get a,S',by omega,by omega,fun p H1 s1 S1=>?_⟩
  refine ⟨p,_,rfl,((S1.pull Pp).pull Pl).pull p,fun H2 J=>⟨_,⟨?_,rfl⟩,(J.pull D)⟩⟩
  rw [Tn,map_append];rfl
 ·rintro Z z H2 ⟨rfl,rfl⟩ hl J
  refine ⟨D,_,rfl,SqL.of (J.get D),?_⟩
  rw [show ∀ k,(QJ k true).all id=true from fun k=>by simp]
  exact q H2
end
abbrev ZlK (P:Ql)(w:Qs)(K:Qa)(mg:Str->Option Qb)(base:Heap):Prop:=Def P w K mg base 1 "_law_take" ["_law_box_here","_law_many"] (Zan 4611686018427387904)
section
variable {P:Ql}{w:Qs}{K:Qa}{mg:Str->Option Qb}{base:Heap}
abbrev vSigns:Str:=ZlT (XO s_l_value)
theorem vs_len:vSigns.length=94:=by decide +kernel
theorem Zpr:vSigns.cps.toList.all sgn=true:=by decide +kernel
abbrev nVv:List Str:=["_law_box_here","_law_way_here","_law_signs"]
theorem scVal:Zp nVv ["_law_box_here"] (Zk s_l_value):={}
theorem ZkN {f:Addr}{fd:Qm}(F:Fun K "_law_value" "_law_value" s_l_value f fd)(T:Txt K mg)(D:ZlK P w K mg base):FnOk P w K mg base ZJ 2 f fd ["_law_box_here"] Zdf:=by
 refine F.ok scVal (fun cdv A outer s H vs Q E hr h=>?_)
 obtain ⟨p,n,rfl,hB,hn,q⟩:=h
 refine ⟨_,Ze (Zx (i:=1) scVal.nd rfl (Qy rfl) (ZA D hr (Zb (pv 0) (Zb Zd Za))))
   (Ze (Yi (ZP ZaC (pv 1) Zd (ZH _)) (Zg (Zn (Zt YW (ZA D hr (Zb (pv 0) (Zb Zd Za))) Zd))) ZV)
   (Ze (Yi (ZP Yo (pv 1) Zd (ZH _)) (Zg (Zn (Zo ZD (Yh (Wz (Zt YW (Zt Zcf Zd Zd) Zd) (Wz (Zt YW Zd (Zt Zcf Zd Zd)) (Wz (Zt Zcf Zd Zd) (Wz Zd Za rfl) rfl) rfl) rfl)) (ZA D hr (Zb (pv 0) (Zb Zd Za))) (fun _ _=>rfl)))) ZV)
   (Ze (Yi (ZP Yo (pv 1) Zd (ZH _)) (Zg (Zn (Zo ZD (Yh (Wz ZU (Wz ZU (Wz ZU (Wz ZU (Wz ZU (Wz ZU (Wz ZU (Wz ZU Za rfl) rfl) rfl) rfl) rfl) rfl) rfl) rfl)) (ZA D hr (Zb (pv 0) (Zb Zd Za))) (fun _ _=>rfl)))) ZV)
   (Ze (Zx (i:=2) scVal.nd rfl (Jg rfl) ZU)
   (Zg (Zn (YL GL Oc Od Zgo ZU (Zb (WE (CompOk.of nVv s_l_value rfl rfl (by decide +kernel)) rfl
     (Xj rfl T.range (Zb (ZA D hr (Zb (pv 0) (Zb (Uu (ZP Yo (pv 1) Zd (ZH _)) Zd Zd) Za))) Za))
     (fun _ _ _ _ _=>Zo WS (pv 2) (ZA D hr (Zb (pv 0) (Zb (Zz (Zii (K:=K) rfl) rfl T.len QM (Zb (pv 2) Za)) Za))) (fun _ _=>rfl))) Za)))))))),?_⟩
 refine ⟨_,rfl,p,n,6,rfl,hB,by omega,by decide,by decide,fun r1 H1 a0 a1 B1 k1=>?_⟩
 refine ⟨_,rfl,_,_,rfl,rfl,_,rfl,Xy (fun c=>?_) (fun c=>?_)⟩
 · refine ⟨_,rfl,p,n+1,7,rfl,B1,by omega,by decide,by decide,fun B H2 b0 b1 W k2=>⟨_,_,rfl,rfl,?_⟩⟩
   exact q _ _ (by show (B - 3).natAbs < 10 ^ 30;omega) (W.le (by omega)) (k1.trans k2)
 refine ⟨_,rfl,rfl,_,rfl,Xy (fun c2=>?_) (fun c2=>?_)⟩
 · refine ⟨_,_,rfl,rfl,⟨by decide,by decide,by decide⟩,_,_,rfl,rfl,_,_,rfl,rfl,⟨by decide,by decide,by decide⟩,_,_,rfl,rfl,_,_,rfl,rfl,⟨by decide,by decide,by decide⟩,(by show 4<=Qi;decide),fun l Z=>?_⟩
   have J:l≠p:=fun e=>by obtain ⟨_,_,_,z,_⟩:=B1;rw [e,z] at Z;cases Z
   refine ⟨_,rfl,p,n+1,4,rfl,B1.same (ZC Z _),by omega,by decide,by decide,fun B H2 b0 b1 W k2=>?_⟩
   obtain ⟨v,hv,hm⟩:=ZcD (xs:=([.int (10 ^ (30:Int).toNat - 1),.int (1 - 10 ^ (30:Int).toNat),.int (10 ^ (29:Int).toNat),.int 0]:List V)) b0 b1
   refine ⟨l,_,_,v,rfl,rfl,SqL.of (k2 l _ J Zi),hv,q _ _ ?_ (W.le (by omega)) (k1.trans ((ZC Z _).kp p |>.trans k2))⟩
   have all:(([.int (10 ^ (30:Int).toNat - 1),.int (1 - 10 ^ (30:Int).toNat),.int (10 ^ (29:Int).toNat),.int 0]:List V)).all Zcw=true:=by decide +kernel
   exact Vu (all_eq_true.mp all v hm)
 refine ⟨_,rfl,rfl,_,rfl,Xy (fun c3=>?_) (fun c3=>?_)⟩
 · refine ⟨(by show 8<=Qi;decide),fun l Z=>?_⟩
   have J:l≠p:=fun e=>by obtain ⟨_,_,_,z,_⟩:=B1;rw [e,z] at Z;cases Z
   refine ⟨_,rfl,p,n+1,8,rfl,B1.same (ZC Z _),by omega,by decide,by decide,fun B H2 b0 b1 W k2=>?_⟩
   obtain ⟨v,hv,hm⟩:=ZcD (xs:=([.str "",.str "0",.str "-1",.str "a",.str "none",.str "'",.str "\\", .str " "]:List V)) b0 b1
   refine ⟨l,_,_,v,rfl,rfl,SqL.of (k2 l _ J Zi),hv,q _ _ ?_ (W.le (by omega)) (k1.trans ((ZC Z _).kp p |>.trans k2))⟩
   have all:(([.str "",.str "0",.str "-1",.str "a",.str "none",.str "'",.str "\\", .str " "]:List V)).all Zcw=true:=by decide +kernel
   exact Vu (all_eq_true.mp all v hm)
 refine ⟨rfl,?_⟩
 have fin:∀ (B:Int) (H2:Hp),0<=B->B < 41->BoxAt H2 p (n+2)->Kp p H1 H2->∃ j:Int,[V.int B]=[.int j]/\-(2 ^ 62)<=j/\j < 2 ^ 62/\∀ D,H2 D=none->CompW (Itr 0 j.toNat)
     (tOp rIxS (Zao 2) (ZhW (Zan 4611686018427387904) [] E0 (Xu (Zao 0) (Xu (tCB (fun xs H Q=>∃ x n,xs=[x]/\ZjT K x H n/\Q (.int n) H) (Xu (Zao 2) Xr)) Xr))))
     [some (.ref p),some (.int r1),some (.str vSigns)] D (fun x H3=>∃ sep a ys,V.str ""=.str sep/\[x]=[.ref a]/\SqL K H3 a (ys.map V.str)/\(ys.map (·.length)).sum+ys.length * sep.length<=16777216/\Q (.str (Txt.join sep ys)) H3) H2:=by
   intro B H2 b0 b1 W k2
   refine ⟨B,rfl,by omega,by omega,fun Dl hD=>?_⟩
   have J:Dl≠p:=fun e=>by obtain ⟨_,_,_,z,_⟩:=W;rw [e,z] at hD;cases hD
   refine ZgY (Qr (show B.toNat<=1000 by omega) (Zhf (Qe _)))
     (fun i ys H'=>∃ zs:List Str,ys=zs.map V.str/\zs.length=i/\(∀ z∈zs,∃ c,z=⟨#[c]⟩/\sgn c=true)/\H' Dl=some (.lst ys)/\BoxAt H' p (n+2+i)/\Kp p H1 H'/\i<=B.toNat)
     ⟨[],rfl,rfl,(fun _ h=>nomatch h),Zi,W.same (ZC hD _),k2.trans ((ZC hD _).kp p),Qw _⟩ ?_ ?_ ?_
   · rintro i ys H' ⟨zs,rfl,hz,_⟩;rw [length_map];exact hz
   · rintro i ys H' hi ⟨zs,rfl,hz,Y,hDl,B',k',_⟩
     refine ⟨_,rfl,_,rfl,_,rfl,_,94,rfl,⟨by rw [vs_len];decide,vs_len.symm⟩,p,n+2+i,94,rfl,B',by omega,by decide,by decide,fun r3 H3 d0 d1 B3 k3=>?_⟩
     have Z:vSigns.cps.toList.length=94:=by rw [<- Yj];exact vs_len
     obtain ⟨c,hc,hm⟩:=ZcD (xs:=vSigns.cps.toList) d0 (by rw [Z];exact d1)
     refine ⟨vSigns,r3,c,rfl,rfl,(by rw [vs_len];decide),hc,k3 Dl _ J hDl,zs++[⟨#[c]⟩],by rw [map_append];rfl,by rw [length_append,hz];rfl,?_,Zi,?_,fun b o nb e=>?_,hi⟩
     · intro z hz'
       rcases mem_append.mp hz' with h | h
       · exact Y z h
       · rw [mem_singleton.mp h];exact ⟨c,rfl,all_eq_true.mp Zpr c hm⟩
     · obtain ⟨x1,x2,x3,x4,x5⟩:=B3
       exact ⟨x1,x2,x3,by rw [Zl J.symm];exact x4,x5⟩
     · rw [Zl (Zs (k2 b o nb e) hD)];exact k3 b o nb (k' b o nb e)
   · rintro ys H' ⟨zs,rfl,hz,Y,hDl,B',k',_⟩
     have ones:∀ l:List Str,(∀ z∈l,∃ c,z=⟨#[c]⟩/\sgn c=true)->(l.map (·.length)).sum=l.length/\(l.flatMap (·.cps.toList)).length=l.length/\(l.flatMap (·.cps.toList)).all sgn=true:=by
       intro l
       induction l with
       | nil=>intro _;exact ⟨rfl,rfl,rfl⟩
       | cons z r ih =>
         intro h
         obtain ⟨c,rfl,hc⟩:=h z mem_cons_self
         obtain ⟨g1,g2,g3⟩:=ih fun y hy=>h y (mem_cons_of_mem _ hy)
         refine ⟨?_,?_,?_⟩
         · rw [map_cons,SM,g1,length_cons];show 1+_=_;omega
         · have e0:((⟨#[c]⟩:Str)::r).flatMap (·.cps.toList)=c::r.flatMap (·.cps.toList):=rfl
           rw [e0,length_cons,length_cons,g2]
         · rw [Sx,RQ,g3];simp [hc]
     obtain ⟨g1,g2,g3⟩:=ones zs Y
     refine ⟨_,Dl,zs,rfl,rfl,SqL.of hDl,?_,q _ _ ⟨?_,?_⟩ (B'.le (by omega)) (k1.trans k')⟩
     · rw [g1];show _+_ * 0<=_;omega
     · rw [Yj];show (Txt.join (Qq "") zs).cps.toList.length<=40;rw [Ub,g2];omega
     · show (Txt.join (Qq "") zs).cps.toList.all sgn=true;rw [Ub];exact g3
 refine ⟨_,rfl,_,rfl,rfl,_,rfl,Xy (fun c4=>?_) (fun c4=>?_)⟩
 · exact ⟨p,n+1,4,rfl,B1,by omega,by decide,by decide,fun B H2 b0 b1 W k2=>by obtain ⟨j,e1,e2,e3,e4⟩:=fin B H2 b0 (by omega) W k2;exact ⟨j,e1,e2,e3,e4⟩⟩
 · exact ⟨p,n+1,41,rfl,B1,by omega,by decide,by decide,fun B H2 b0 b1 W k2=>by obtain ⟨j,e1,e2,e3,e4⟩:=fin B H2 b0 (by omega) W k2;exact ⟨j,e1,e2,e3,e4⟩⟩
end
end K24
namespace K24
open PySem L2
open PySem.W in
theorem all_mk {l:RO}{w:Qs}{K:Qa}{h:Heap}{mg:Str->Option Qb}{fa:Addr}
 {oj o4 om nj m9 mq mo md jy i9 d5 jz f7 ku gy fc gz kr fe gf d6 ja j0 d4 gx i3 jx i7 i6 jw gu gt ju i5 ko i4 jv jc nh mn kz lh mh j1 ml me ky mi ng kx mf ni lg mj jb f8 k9 pp aa ac lw gn P_leaf_of P_Store_pairs:Addr} {oh o1 oi m7 mz ma l9 lx jq iy d3 jr fz ke c9 fb da fw bj cj be dw js dz gs iq jp ix iw jo gq gp jm iu kc ir jn i0 m4 ge ki kn l5 jt l8 ly kf l6 m3 fx lz m5 km l7 iz f6 kj n6:Qm} (X:K.In h) (G:h.Ns Qv mg) (hfa:mg "law"=some (.ref fa))
 (jl:CH K "Store" aa)
 (ib:QR K (.ref aa) "nodes"=some none)
 (gj:QR K (.ref aa) "tables"=some none)
 (jk:CH K "Roads" ac)
 (jd:QR K (.ref ac) "kept"=some none)
 (gg:QR K (.ref ac) "aheads"=some none)
 (ia:QR K (.ref ac) "steps"=some none)
 (gh:QR K (.ref ac) "tables"=some none)
 (g9:QR K (.ref ac) "costs"=some none)
 (g7:FG K "alike" s_alike oj oh)
 (j2:FG K "mark" s_mark o4 o1)
 (g8:FG K "digit" s_digit om oi)
 (fj:FGC K "leaf_of" s_leaf_of nj m7 lw P_leaf_of)
 (ff:FG K "fork_of" s_fork_of m9 mz)
 (dm:FG K "parts_in" s_parts_in mq ma)
 (dl:FG K "pairs_in" s_pairs_in mo l9)
 (db:FG K "has_mark" s_has_mark md lx)
 (cb:FM K aa "__init__" "Store.__init__" c_Store___init__ jy jq)
 (bt:FM K aa "empty" "Store.empty" c_Store_empty i9 iy)
 (aq:FM K aa "check_table" "Store.check_table" c_Store_check_table d5 d3)
 (ce:FM K aa "keep" "Store.keep" c_Store_keep jz jr)
 (ay:FM K aa "as_table" "Store.as_table" c_Store_as_table f7 fz)
 (cp:FM K aa "way" "Store.way" c_Store_way ku ke)
 (aj:FM K aa "looked" "Store.looked" c_Store_looked gy c9)
 (au:FM K aa "fork_parts" "Store.fork_parts" c_Store_fork_parts fc fb)
 (ax:FM K aa "put_in" "Store.put_in" c_Store_put_in gz da)
 (cm:FM K aa "put" "Store.put" c_Store_put kr fw)
 (ag:FM K aa "taken_from" "Store.taken_from" c_Store_taken_from fe bj)
 (ba:FM K aa "without" "Store.without" c_Store_without gf cj)
 (ae:FM K aa "pairs_below" "Store.pairs_below" c_Store_pairs_below d6 be)
 (al:FMC K aa "pairs" "Store.pairs" c_Store_pairs ja dw gn P_Store_pairs)
 (cf:FM K aa "made" "Store.made" c_Store_made j0 js)
 (ao:FM K ac "check_place" "Roads.check_place" c_Roads_check_place d4 dz)
 (bh:FM K ac "places" "Roads.places" c_Roads_places gx gs)
 (bn:FM K ac "ahead" "Roads.ahead" c_Roads_ahead i3 iq)
 (ca:FM K ac "step" "Roads.step" c_Roads_step jx jp)
 (br:FM K ac "table" "Roads.table" c_Roads_table i7 ix)
 (bq:FM K ac "store" "Roads.store" c_Roads_store i6 iw)
 (b9:FM K ac "road" "Roads.road" c_Roads_road jw jo)
 (bg:FM K ac "looked" "Roads.looked" c_Roads_looked gu gq)
 (bf:FM K ac "all_at" "Roads.all_at" c_Roads_all_at gt gp)
 (b7:FM K ac "cost" "Roads.cost" c_Roads_cost ju jm)
 (bp:FM K ac "go_on" "Roads.go_on" c_Roads_go_on i5 iu)
 (ck:FM K ac "put" "Roads.put" c_Roads_put ko kc)
 (bo:FM K ac "clear" "Roads.clear" c_Roads_clear i4 ir)
 (b8:FM K ac "__init__" "Roads.__init__" c_Roads___init__ jv jn)
 (bv:FG K "_law_cell_at" s_l_cell_at jc i0)
 (fh:FG K "_law_box" s_l_box nh m4)
 (bx:FG K "_law_take" s_l_take mn ge)
 (cr:FG K "_law_names" s_l_names kz ki)
 (cx:FG K "_law_value" s_l_value lh kn)
 (dg:FG K "_law_pool" s_l_pool mh l5)
 (cg:FG K "_law_values" s_l_values j1 jt)
 (dk:FG K "_law_step" s_l_step ml l8)
 (dc:FG K "_law_from" s_l_from me ly)
 (cq:FG K "_law_grown" s_l_grown ky kf)
 (dh:FG K "_law_road" s_l_road mi l6)
 (fg:FG K "_law_all" s_l_all ng m3)
 (ai:FG K "_law_alike" s_l_alike kx fx)
 (de:FG K "_law_mark" s_l_mark mf lz)
 (fi:FG K "_law_way" s_l_way ni m5)
 (cw:FG K "_law_stand" s_l_stand lg km)
 (dj:FG K "_law_same" s_l_same mj l7)
 (bu:FG K "_law_besides" s_l_besides jb iz)
 (az:FG K "_law_last_right" s_l_last_right f8 f6)
 (cu:FG K "_law_right" s_l_right k9 kj)
 (mr:FG K "law" s_law pp n6)
 (qm:QB K Qv "len"=some none)
 (qh:QB K Qv "abs"=some none)
 (ql:QB K Qv "int"=some none)
 (oz:QB K Qv "range"=some none)
 (qp:QB K Qv "min"=some none)
 (qo:QB K Qv "max"=some none)
 (pk:QB K Qv "repr"=some none)
 (lj:QB K Qv "enumerate"=some none)
 (qq:QB K Qv "ord"=some none)
 (ph:QB K Qv "list"=some none)
 (o0:QB K Qv "tuple"=some none)
 (pf:QB K Qv "dict"=some none)
 (n5:QB K Qv "sorted"=some none)
 (qu:QB K Qv "sum"=some none)
 (qj:QB K Qv "all"=some none)
 (qk:QB K Qv "any"=some none)
 (nw:QB K Qv "divmod"=some none)
 (qt:QB K Qv "str"=some none)
 (j4:QB K Qv "isinstance"=some none)
 (qr:QB K Qv "set"=some none)
 (qv:QB K Qv "zip"=some none)
 (mw:QB K Qv "reversed"=some none)
 (pe:QB K Qv "bool"=some none)
 {tb:Tok}
 (gBASE:QB K Qv "BASE"=some (some (.int 4 tb)))
 {tz:Tok}
 (gZERO:QB K Qv "BARE_NUMBER"=some (some (.int 0 tz)))
 {ab:Addr}
 (gBARE:QB K Qv "BARE"=some (some (.ref ab)))
 (tBARE:Zen K ab [.str "bare"]=true)
 {af:Addr}
 (gFIG:QB K Qv "FIGURES"=some (some (.ref af)))
 (tFIG:Zen K af [.int 0,.int 1,.int 2,.int 3]=true) :
 ∃ fd:Qm,(∀ (s:Qf) (v:Qb),Ov s fd ⟨[v],[]⟩ [("_law_script",v)])/\∀ base:Heap,K.In base->base.Ns Qv mg->UJ base mg->FnOk l.prog w K mg base ZJ 16 fa fd ["_law_script"] (Zcp K P_leaf_of P_Store_pairs):=by
 have e:=hfa.symm.trans (mg_of X G mr.a)
 cases e
 have p9:=QW X G qm
 have pq:=QW X G qh
 have p8:=QW X G ql
 have ox:=QW X G oz
 have qb:=QW X G qp
 have qa:=QW X G qo
 have pd:=QW X G pk
 have li:=QW X G lj
 have qc:=QW X G qq
 have pb:=QW X G ph
 have oy:=QW X G o0
 have o7:=QW X G pf
 have nu:=QW X G n5
 have qf:=QW X G qu
 have pw:=QW X G qj
 have p7:=QW X G qk
 have nr:=QW X G nw
 have qe:=QW X G qt
 have j3:=QW X G j4
 have qd:=QW X G qr
 have qg:=QW X G qv
 have mu:=QW X G mw
 have o6:=QW X G pe
 have oq:=mg_of X G gBASE
 have ou:=mg_of X G gZERO
 have oo:=mg_of X G gBARE
 have o5:=mg_of X G gFIG
 have nq:=jl.c
 have nn:=jk.c
 have TB:Yl mg:=⟨p9,pq,p8,ox,qb,qa,pd,li,qc,pb,oy,o7,nu,qf,pw,p7,nr,qe,j3,qd,qg,mu,o6⟩
 have T:Txt K mg:=⟨TB,⟨_,oq⟩,⟨_,ou⟩,⟨_,oo,ZfD tBARE⟩,⟨_,o5,ZfD tFIG⟩⟩
 have TC:YY K aa:=⟨nq,ib,gj⟩
 have TR:Xo K ac:=⟨nn,jd,gg,ia,gh,g9⟩
 refine ⟨n6,fun s v=>ZiI mr.F (fun _ _ _ _ _ _ _=>rfl) s v,fun base _ _ hBm=>?_⟩
 have e:Bs l.prog w K mg base h:=⟨X,G⟩
 have og:=g7.df e (Zkz g7.F) (g7.F.b2 fun _ _ _ _ _ _ _ _=>rfl)
 have er:=j2.df e (ZmU j2.F T) (j2.F.b1 fun _ _ _ _ _ _ _=>rfl)
 have fk:=g8.df e (ZkB g8.F T) (g8.F.b2 fun _ _ _ _ _ _ _ _=>rfl)
 have ig:=fj.df e (ZmR fj.F T hBm er) (fj.F.fn.b1 fun _ _ _ _ _ _ _=>rfl)
 have ic:=ff.df e (ZiU ff.F T) (ff.F.b1 fun _ _ _ _ _ _ _=>rfl)
 have bw:=dm.df e (ZkI dm.F) (dm.F.b1 fun _ _ _ _ _ _ _=>rfl)
 have aw:=dl.df e (ZkH dl.F) (dl.F.b1 fun _ _ _ _ _ _ _=>rfl)
 have f9:=db.df e (ZmO db.F) (db.F.b2 fun _ _ _ _ _ _ _ _=>rfl)
 have jh:=cb.di jl e (FnOk.conv (sp':=ZaH K aa) (ZmP cb.F T TC) (fun _ _ _ _ h=>Zog h)) (cb.F.b1 fun _ _ _ _ _ _ _=>rfl)
 have ik:=bt.df e (ZkC (C:=aa) bt.F T) (bt.F.b1 fun _ _ _ _ _ _ _=>rfl)
 have am:=aq.df e (ZkA aq.F TC) (aq.F.b2 fun _ _ _ _ _ _ _ _=>rfl)
 have d9:=ce.df e (ZmQ ce.F T TC) (ce.F.b2 fun _ _ _ _ _ _ _ _=>rfl)
 have bz:=ay.df e (Zot ay.F TC) (ay.F.b2 fun _ _ _ _ _ _ _ _=>rfl)
 have fr:=cp.df e (ZoC cp.F T TC am bw er fk) (cp.F.b3 fun _ _ _ _ _ _ _ _ _=>rfl)
 have c7:Binds K c9 ["self","table","name"] []:=aj.F.b3 fun _ _ _ _ _ _ _ _ _=>rfl
 have cz:DefM l.prog w K mg base 3 aa "looked" ["self","table","name"] (WL K aa):=⟨_,_,ZdA aj.F T TC fr aw,c7,aj.m⟩
 have il:DefM l.prog w K mg base 3 aa "looked" ["self","table","name"] (ZaI K aa):=⟨_,_,Zop (ZdA aj.F T TC fr aw),c7,aj.m⟩
 have d8:=au.df e (ZpD au.F T TC bw aw er fk) (au.F.b3 fun _ _ _ _ _ _ _ _ _=>rfl)
 have c8:Binds K da ["self","number","level","name","value"] []:=ax.F.b5 fun _ _ _ _ _ _ _ _ _ _ _=>rfl
 have gm:∀ NS,ZZ NS->DefM l.prog w K mg base 8 aa "put_in" nPi (Zal K aa P_leaf_of NS 6):=fun NS N=>⟨_,_,Zgp N ax.F T TC f9 aw er fk ig ic d9 d8 c8 ax.m 6,c8,ax.m⟩
 have kb:Binds K fw ["self","table","name","value"] []:=cm.F.b4 fun _ _ _ _ _ _ _ _ _ _=>rfl
 have fo:DefM l.prog w K mg base 9 aa "put" ["self","table","name","value"] (Zam K aa P_leaf_of):=⟨_,_,ZpK fun NS N=>Zoz N cm.F TC og cz bz (gm NS N),kb,cm.m⟩
 have bi:Binds K bj ["self","number","level","name"] []:=ag.F.b4 fun _ _ _ _ _ _ _ _ _ _=>rfl
 have en:∀ NS,ZZ NS->DefM l.prog w K mg base 8 aa "taken_from" nTk (Zct K aa P_leaf_of NS 6):=fun NS N=>⟨_,_,Zgq N ag.F T TC f9 bw aw er fk ig ic d9 bi ag.m 6,bi,ag.m⟩
 have gc:Binds K cj ["self","table","name"] []:=ba.F.b3 fun _ _ _ _ _ _ _ _ _=>rfl
 have ci:DefM l.prog w K mg base 9 aa "without" ["self","table","name"] (Zcu K aa P_leaf_of):=⟨_,_,wo_S fun NS N=>ZpI N ba.F TC cz bz (en NS N),gc,ba.m⟩
 have bd:Binds K be ["self","number"] []:=ae.F.b2 fun _ _ _ _ _ _ _ _=>rfl
 have bc:∀ NS,ZZ NS->DefM l.prog w K mg base 7 aa "pairs_below" Zbm (Zfx K aa NS 6):=fun NS N=>⟨_,_,ZiW N ae.F T TC aw bw bd ae.m 6,bd,ae.m⟩
 have dv:Binds K dw ["self","table"] []:=al.F.fn.b2 fun _ _ _ _ _ _ _ _=>rfl
 have oe:∀ NS,ZZ NS->DefM l.prog w K mg base 8 aa "pairs" ZcQ (VI K aa P_Store_pairs NS):=fun NS N=>⟨_,_,ZdB N al.F T TC hBm (am.mono (by decide)) (bc NS N),dv,al.m⟩
 have dr:DefM l.prog w K mg base 8 aa "pairs" ZcQ (Uw K aa P_Store_pairs):=⟨_,_,Znc fun NS N=>ZdB N al.F T TC hBm (am.mono (by decide)) (bc NS N),dv,al.m⟩
 have ee:=cf.df e (ZmT cf.F T TC) (cf.F.b1 fun _ _ _ _ _ _ _=>rfl)
 have ad:=ao.df e (ZmY (CS:=aa) ao.F TB TR) (ao.F.b2 fun _ _ _ _ _ _ _ _=>rfl)
 have gl:=bh.df e (ZiX (CS:=aa) bh.F TB TR) (bh.F.b1 fun _ _ _ _ _ _ _=>rfl)
 have ii:=bn.df e (Zky bn.F TB TR ad) (bn.F.b2 fun _ _ _ _ _ _ _ _=>rfl)
 have jg:=ca.df e (ZkL ca.F TB TR ad) (ca.F.b2 fun _ _ _ _ _ _ _ _=>rfl)
 have ak:=br.df e (ZkM br.F TB TR ad) (br.F.b2 fun _ _ _ _ _ _ _ _=>rfl)
 have dq:=bq.df e (ZoA bq.F TB TR) (bq.F.b1 fun _ _ _ _ _ _ _=>rfl)
 have jf:=b9.df e (ZkK b9.F TB TR ii) (b9.F.b2 fun _ _ _ _ _ _ _ _=>rfl)
 have gk:=bg.df e (Zox bg.F TB TR TC (ak.mono (by decide)) (il.mono (by decide))) (bg.F.b3 fun _ _ _ _ _ _ _ _ _=>rfl)
 have cy:=bf.df e (Zou bf.F TB TR TC (ak.mono (by decide)) (dr.mono (by decide))) (bf.F.b2 fun _ _ _ _ _ _ _ _=>rfl)
 have d7:=b7.df e (ZmL b7.F TB TR ad) (b7.F.b2 fun _ _ _ _ _ _ _ _=>rfl)
 have dn:=bp.df e (ZmN bp.F TB TR TC (ak.mono (by decide)) (ee.mono (by decide)) fo ci) (bp.F.b3 fun _ _ _ _ _ _ _ _ _=>rfl)
 have fm:=ck.df e (ZmW ck.F TB TR dn) (ck.F.b4 fun _ _ _ _ _ _ _ _ _ _=>rfl)
 have ij:=bo.df e (ZmK bo.F TB TR dn) (bo.F.b3 fun _ _ _ _ _ _ _ _ _=>rfl)
 have je:=b8.di jk e ((ZkE b8.F TB TR TC jh (ik.mono (by decide))).mono (show 3<=13 by decide)) (b8.F.b1 fun _ _ _ _ _ _ _=>rfl)
 have ip:=bv.df e (ZmJ bv.F TB) (bv.F.b2 fun _ _ _ _ _ _ _ _=>rfl)
 have mx:=fh.df e (FnOk.conv (sp':=Zcn K) (Zov fh.F TB ip) (fun _ _ _ _ h=>Zpw h)) (fh.F.b2 fun _ _ _ _ _ _ _ _=>rfl)
 have lv:Binds K ge ["_law_box_here","_law_many"] []:=bx.F.b2 fun _ _ _ _ _ _ _ _=>rfl
 have DT0:ZlK l.prog w K mg base:=⟨_,_,Zna bx.F,lv,bx.F.kp,(mg_of X G bx.a)⟩
 have av:DTk l.prog w K mg base 1:=DT0.conv fun _ _ _ _ h=>Zpk h
 have j7:=cr.df e (ZkG cr.F TB av) (cr.F.b2 fun _ _ _ _ _ _ _ _=>rfl)
 have ka:=cx.df e (FnOk.conv (sp':=VJ) (ZkN cx.F T DT0) (fun _ _ _ _ h=>ZnC h)) (cx.F.b1 fun _ _ _ _ _ _ _=>rfl)
 have lq:=dg.df e (ZmV dg.F TB av j7) (dg.F.b2 fun _ _ _ _ _ _ _ _=>rfl)
 have jj:=cg.df e (ZiY cg.F TB ka) (cg.F.b1 fun _ _ _ _ _ _ _=>rfl)
 have gb:=dk.df e (ZmZ dk.F TB av) (dk.F.b3 fun _ _ _ _ _ _ _ _ _=>rfl)
 have ll:=dc.df e (ZmM dc.F TB av) (dc.F.b2 fun _ _ _ _ _ _ _ _=>rfl)
 have j6:=cq.df e (ZkD cq.F TB TR fm ij) (cq.F.b4 fun _ _ _ _ _ _ _ _ _ _=>rfl)
 have lr:=dh.df e (ZkF dh.F TB) (dh.F.b2 fun _ _ _ _ _ _ _ _=>rfl)
 have ie:=fg.df e (Zos fg.F TB (lr.mono (by decide))) (fg.F.b2 fun _ _ _ _ _ _ _ _=>rfl)
 have ft:Binds K fx ["_law_one","_law_other"] []:=ai.F.b2 fun _ _ _ _ _ _ _ _=>rfl
 have j5:Def l.prog w K mg base 1 "_law_alike" Zea Zek:=⟨_,_,ZiV ai.F TB,ft,ai.F.kp,(mg_of X G ai.a)⟩
 have ji:Def l.prog w K mg base 1 "_law_alike" ZdZ Zej:=⟨_,_,Zhk ai.F TB,ft,ai.F.kp,(mg_of X G ai.a)⟩
 have lm:=de.df e (Zoy de.F TB) (de.F.b1 fun _ _ _ _ _ _ _=>rfl)
 have my:=fi.df e (ZmS fi.F TB lm) (fi.F.b2 fun _ _ _ _ _ _ _ _=>rfl)
 have j9:=cw.df e (ZpG cw.F TB TR (gl.mono (by decide)) (jf.mono (by decide)) (jg.mono (by decide)) (ak.mono (by decide)) (cy.mono (by decide)) (d7.mono (by decide)) (gk.mono (by decide))) (cw.F.b2 fun _ _ _ _ _ _ _ _=>rfl)
 have ga:=dj.df e (ZpH dj.F TB (j5.mono (by decide))) (dj.F.b2 fun _ _ _ _ _ _ _ _=>rfl)
 have io:=bu.df e (ZpC bu.F TB TR TC av (dq.mono (by decide)) (ak.mono (by decide)) (ie.mono (by decide)) (gb.mono (by decide)) (fo.mono (by decide)) (ci.mono (by decide)) (dr.mono (by decide)) (ga.mono (by decide))) (bu.F.b6 fun _ _ _ _ _ _ _ _ _ _ _ _=>rfl)
 have fy:=az.df e (ZpE az.F TB TR (ie.mono (by decide)) (my.mono (by decide)) (ji.mono (by decide)) (d7.mono (by decide)) (cy.mono (by decide)) (ga.mono (by decide))) (az.F.b2 fun _ _ _ _ _ _ _ _=>rfl)
 have j8:=cu.df e (ZkJ cu.F TB TR TC av (lq.mono (by decide)) (jj.mono (by decide)) je (ll.mono (by decide)) (gb.mono (by decide)) (j6.mono (by decide)) (fy.mono (by decide)) (j9.mono (by decide)) (io.mono (by decide)) (fm.mono (by decide)) (dq.mono (by decide)) (ee.mono (by decide))) (cu.F.b1 fun _ _ _ _ _ _ _=>rfl)
 exact Zow mr.F TB (mx.mono (by decide)) j8
theorem walk {l:RO}{q:Ql}{loose:List Str}{XP:(Str->Option Qb)->Heap->Prop}{YP:Qs->Heap->Prop}{d:DefRec}{K:Params->Qa}{ts:List Addr}{P_leaf_of P_Store_pairs:Addr}(hn:l.most=some 63)(hdf:d.params.defaults=[])
 (hY:∀ (w:Qs) (h:Heap),YP w h->(K w.params).In h/\∀ b∈ts,h.get? b=some (PySem.W.tabObj #[]))
 (hK:∀ (w:Qs) (b:Addr),b∈ts->(K w.params).lookup b=none/\∃ c,PySem.W.codeHdIn (K w.params) c b=true)
 (hP_leaf_of:P_leaf_of∈ts) (hP_Store_pairs:P_Store_pairs∈ts) (hne:P_leaf_of≠P_Store_pairs) (F:∀ (w:Qs) (mg:Str->Option Qb) (fa:Addr) (h:Heap),(K w.params).In h->h.Ns Qv mg->mg d.name=some (.ref fa) ->
  ∃ fd:Qm,(∀ (s:Qf) (u:Qb),Ov s fd ⟨[u],[]⟩ [("_law_script",u)])/\∀ base:Heap,(K w.params).In base->base.Ns Qv mg->UJ base mg->FnOk l.prog w (K w.params) mg base ZJ 16 fa fd ["_law_script"] (Zcp (K w.params) P_leaf_of P_Store_pairs)) :
 PySem.W.WalkO q loose XP YP l.row.toRowW d [] (fun f vs=>PySem.call f vs) :=
 L2.walk_ofT (n:=63) (k:=16) (x:="_law_script") (CX:=fun _=>ZJ) (sp:=fun w=>Zcp (K w.params) P_leaf_of P_Store_pairs) (ts:=ts) hn (by decide) hdf ⟨rfl,by decide,by decide,rfl⟩ hY hK F (fun w H a ns hl hO hS hT=>⟨a,ns,rfl,hS,hl,.inl (hT _ hP_leaf_of),.inl (hT _ hP_Store_pairs),hne,fun _=>rfl⟩) fun _ _ _ _ _ z=>z
end K24
set_option genInjectivity false in
set_option genSizeOfSpec false in
structure PySem.W.Fast:Prop where (tw14187236673674004162 tw5177533061639849649 tw9831478649890697530 tw13305691201380232577 tw13750057047314973943 tw4056901539435875532 tw8587295841780456629 tw7268764508760950842 tw6084062999886444453 tw9675947696303302588 tw6948701167805616650 tw12675623258593436076 tw4841766086241800386 tw362534381021694259 tw14310997350960842557 tw17092592456422831758 tw9572151609964929110 tw7498325956246440328 tw12589783911492380548 tw9177364522804753103 tw1627088651882958280 tw5959475158665405844 tw12405701491237678106 tw2914168534711906958 tw5824921918049981558 tw17543114091961867488 tw1564605820787291891 tw10900772135297434838 tw10689728923353699366 tw2884409563155074189 tw8773359579888051477 tw12210218799920729968 tw17531843927363839904 tw15452583565151120922 tw7742889013067266516 tw7720321840940887272 tw10738899645516738339 tw13213227191325791281 tw9372646644318882056 tw15427413069968307225 tw14823591531539118668 tw12957940633975582003 tw940495932021792223 tw6195540964975436023 tw14376950457111026976 tw16187127188948469637 tw5418516931123485217 tw18209611524579634578 tw5382856234001371966 tw15074371276417046767 tw16903484247718944434 tw4902753465717282375 tw7855519278865460222 tw12261240788667885031 tw9843022354911620157 tw8406209965263647452 tw4288893489342997906 tw2988885279670702307 tw6760350974064116658 tw8211498456505327149 tw5256878412872008860 tw4479068684840363306 tw13720972775932807293 tw4241760933919337660 tw3380694874070254638 tw12028630854138874725 tw11090228806181101812 tw6966300538456574623 tw16448944593752323177 tw12299860496575831066 tw17185454231107255105 tw5185506583298327438 tw7409605852103216939 tw1746576047409866172 tw4462886852512627920 tw1655985374336340826 tw15997224733597060764 tw12300146878680834338 tw11720057276366125079 tw16672095736170742168 tw5351006925835083298 tw5573608986181523988 tw14417641904592601499 tw4362813936169749746 tw10914546780199802563 tw4088124550399572196 tw16861561596736835292 tw15813431363066818916 tw13751738866480898055 tw9665005829946358180 tw15123095952338150801 tw14664329878446014942 tw12172502075410227829 tw11017183717049949212 tw7433516250966125660 tw1025471980667657903 tw7331836859182163480 tw17764895830371827590 tw15675611057812168126 tw1717016988768869148 tw10900041024432698479 tw17242050366480394743 tw7912867698237887472 tw8883337012679644430 tw14568404000791413338 tw10488744172261312187 tw9330300026689825616 tw7771537004251455687 tw9555574561771096471 tw5763388454076190194 tw315886993671280172 tw7722549596638101822 tw1806889742085839829 tw12695757280453968783 tw2855609977076017539 tw12145543171761165303 tw1534625723590242064 tw3366399168095922031 tw17258212544035996759 tw1911970195427477558 tw5347533850258375057 tw13174014352250419939 tw9899317436956389346 tw10856257376579356301 tw18419139126997930548 tw137506577049933361 tw7698951489782678577 tw7170977325237852141 tw640205147715214251 tw647411655122571082 tw11257029550731768144 tw17035657962484697269 tw13218027271624926736 tw5203535943574851546 tw13037429887973293124 tw15582535531350464729 tw15086097455145071065 tw1804887413373978904 tw6802559682739953958 tw6135786274008059819 tw13489410316974640816 tw4071575966079388445 tw5164190712805351652 tw16515958303888600202 tw10900677455110974713 tw602776704625437990 tw5662047659455398385 tw9815476444015439048 tw2745119636732453601 tw15848604284563250515 tw3297331520194513431 tw12057563085390464953 tw6292147843745556305 tw6230928934409589737 tw14564669397977800662 tw13783147222499073204 tw10360374630587900496 tw13911531605879894708 tw1413777824458315059 tw12707169567463173140 tw10434272440538016626 tw7504515010550956565 tw13450522406150002401 tw4006639180046535356 tw3862815838786467649 tw11421024132739372014 tw9581643525893151988 tw7538066916702570034 tw12266628827744566102 tw1395864597131064925 tw8867893022009007439 tw16237328117996400102 tw7839023871360966076 tw18306336548609006676 tw5239980042152564505 tw10259769151160374349 tw8153728464692875431 tw12548570577394597843 tw8196274829941300808 tw3003408046825541033 tw11295848442856067182 tw18072675188267154045 tw17098856955758294789 tw11809847832730121345 tw12305971492213616898 tw7877837882299607217 tw9683911681596729852 tw613631645219202591 tw9270999822401529057 tw9203718437398684623 tw13878770945163073618 tw13508826990637405255 tw13897203267496669367 tw12466837989187588540 tw17750894445436621646 tw3967784704756996543 tw3895884799754011109 tw7556561948191480850 tw17121620801832901684 tw11109295221246723144 tw4123421718789874980 tw7315270153316270104 tw3838047559081607123 tw17204384419506387172 tw15946414976194319002 tw15547424568554522834 tw17655234825710630305 tw16051024490493186936 tw13841529809449254768 tw7518149939181875272 tw6276619352476314531 tw5643926586752177199 tw16800528707431838862 tw13656570917243594094 tw13261478739082937417 tw11240826228641590291 tw4737066254548925508 tw7386296530333096466 tw11038701095357249957 tw246924535348301677 tw6362371856648101729 tw14613947419196847953 tw3151763070733962365 tw902780753231658822 tw6515391079530858204 tw2258268210492100343 tw16459932770290378725 tw1572070623024816470 tw10891026611813368701 tw1236935613955476612 tw14769278442469282924 tw11200697784758397902 tw7152532245535952537 tw11828957802459214023 tw18414210457182027888 tw1936707081035543263 tw16446460834239194318 tw8198156114213539494 tw7228712738788043190 tw15645024833858258436 tw13020102080699600649 tw9929120207511502011 tw9456585204541937011 tw7639605605459204691 tw722028959012684166 tw7017571284062818909 tw505436805601102261 tw4950706201535531675 tw4132744834811922713 tw3983903315631611676 tw3835323834157063704 tw3045067305703468180 tw17905495079830921922 tw17728209215479316779 tw16735162279679416907 tw16580287705435553014 tw16538046669126433245 tw16235874601936161438 tw16067600496717875729 tw1573338018206994199 tw15050193892356345911 tw15014886707105146504 tw14292999499034987233 tw1275156281002843466 tw12356972616290948140 tw12119552657804835412 tw12097936995298534022 tw11733425998720291355 tw11678047358558060901 tw11489492666833361875 tw11302583775636976253 tw10991777304890294249 tw10573991282831729354 tw2189242269043107323 tw12250717005486180653 tw10942792096259040242 tw9206904522839892385 tw8439546290038422227 tw8342528701412966244 tw7358941788084742251 tw14648978943622707703 tw13116215511558952822 tw116610010097222879 tw1127815918564516479 tw6051973106167519407 tw4413172858672170635 tw3812472379453456129 tw12799150024610073245 tw8895672893703883427 tw2803647735360553545 tw5512206739088400936 tw18025497401396404042 tw15384216442650468715 tw952746752466556067 tw9060315131903904963 tw524180091976985989 tw5194366690906214716 tw4386408824620863773 tw427767102222114531 tw3274365979047700577 tw2098176529112276066 tw17777250575698840845 tw17744666257630394842 tw1693075184606592974 tw16742502943071746755 tw16513328113543586100 tw16319622091757166455 tw15941836386656162940 tw14605553776319311287 tw14287198864043459567 tw13588271915309337061 tw13286498084317769165 tw12479235369151665405 tw11910912479441930027 tw11658627653173296107 tw11080665869653971600 tw10842886786570549224 tw9159455001707074409 tw17500472168041089127 tw14549575470635641423 tw8167085219288688959 tw5473403965450639410 tw4281541618879788386 tw796579386680443579 tw9249075653423197963 tw8868639415431491747 tw775122330328708375 tw5878303973726067592 tw3677581413042460070 tw3104031830488132044 tw18130819581420991173 tw181158702244467629 tw17880335014602646520 tw17184635169994053761 tw16580409697883364685 tw14956573688601905218 tw14870642527768828376 tw14026683180394804671 tw11933366508454638701 tw3866061136993890270 tw7163829023294642934 tw7711799464142728051 tw14924510240985927745 tw1581926256287314712 tw14594538431510366850 tw6394616307247987827 tw15800077642240216940 tw11996207650684009649 tw5747626648397425522 tw12007921199963218430 tw7251733321608160989 tw6953953229098445004 tw6436063490462764392 tw6275224258674556205 tw4119887504233662724 tw18129045861616840887 tw17898247009155284306 tw17697309711637905183 tw13690959091441362741 tw13644891299560545507 tw1269907158854891272 tw5418666507067933209 tw1394195124222088391 tw3437916561832674688 tw18337270929316048676 tw16025283976966629022 tw13009047604511997851 tw11447032381104489924 tw16322873101723813516 tw4776253860752498793 tw5943349863452151613 tw9997448028305289704 tw9645691271495379689 tw8282434543979494407 tw7938017946094155016 tw3244394116057983459 tw18306984823977067381 tw1160102369106058341 tw4548049524608718107 tw17313304879946238403 tw2264607209860932891 tw12006891578761673784 tw15849260262848095077 tw12105115229357149649 tw1021820575221720378 tw9135210463216757533 tw8827992159882515607 tw7577927137271735001 tw18021826537783898014 tw16065543227557170314 tw11444496660960701671 tw10269415720582924079 tw9964499348020729926 tw9754308335970542411 tw9715028330623547188 tw9709377312035465874 tw9651858138284476252 tw9468748955565131148 tw9450924691619901139 tw9437597985581875239 tw9390628999219536642 tw9350444034507995010 tw9347684960449541383 tw9241366428899378493 tw8828721442622790658 tw8798131542039927599 tw8785953243196780839 tw8779938913995577427 tw8671122198753957905 tw866817346273744533 tw8651099008278778305 tw8623191068386934883 tw8508149861728470837 tw8460043568051353798 tw8453595456000975965 tw8411108482079129738 tw8408837607570204394 tw8407921863491016063 tw8320168944410862858 tw8224258177433282029 tw8219300005382922213 tw8098765265040799503 tw7922339258019414795 tw7818414116759588181 tw7773840444344826904 tw7742000633745507411 tw769816050974324241 tw7646636276721412451 tw7633383723870762940 tw7598269733618757775 tw7587231864626036679 tw7564794132666746739 tw751543024712474884 tw7487345142085687010 tw7421717045705870155 tw7379054428264828971 tw7199963823307556293 tw7158353683628724935 tw7093872924568729079 tw7027027775712742410 tw7018539987864520161 tw7004539639139534318 tw69498670811556503 tw6871472639761715002 tw664919909490025980 tw6625600756206835079 tw6595312277184154473 tw6534634487912137429 tw6449846714801262229 tw6396230097013941965 tw6128218477948755735 tw6034024302341394515 tw5993020749114738204 tw5939205947507343015 tw5620823770824985266 tw5601646249728976943 tw5539242843341709212 tw5432904008156564453 tw5343048158653963594 tw5155008495439017761 tw5114103151312821737 tw5091668063029502660 tw5016835640081814984 tw5016509737729509563 tw4963937847013190653 tw4942686467481539210 tw4913744762344879228 tw4845337193556736619 tw4828560062596914871 tw479325429398224347 tw469937785320731944 tw4689912973715026273 tw4681512536278500068 tw4638688349199428560 tw4491471802606679457 tw4468439946217326094 tw4377805052112630729 tw4339183200482429854 tw4322645384602579828 tw4130528478865020738 tw4095069379757027457 tw3959436037388758852 tw3931772984725989501 tw3931369332192456548 tw38501487538936268 tw3757719583785573181 tw3713458129963069726 tw3704725709671960314 tw3377286558302495706 tw3330321236326318499 tw3257138235620498688 tw3244759282046410981 tw3117136397949437252 tw3074288229362500299 tw2956597884872090720 tw2931495736211445210 tw2924581741815112240 tw288863038115619217 tw2838490062345133350 tw281478215643127941 tw2789981546235067424 tw2787472922649705809 tw2725110692960119757 tw2722611912722097471 tw2686626112446713970 tw2683829695158752769 tw2655623428384563502 tw2601692634330839850 tw2494406387763129027 tw2391971282776805151 tw2224376606556381173 tw218258146485692327 tw2138202507381619356 tw2121471949778729628 tw2089555627001680706 tw2052569747002641541 tw2004645341467853785 tw1932441593587879822 tw1907339618518349919 tw18394642330028713009 tw1837451915706926670 tw18286119807025380292 tw18240008979190392578 tw18073249509574512875 tw18029318173535757850 tw18023487352470969821 tw17918935617377330870 tw17830402436710310034 tw17804168699661737491 tw17687831626454593653 tw17685026985702097948 tw17668648407638398640 tw17589648201110068668 tw17586251855770063533 tw17518216393670395377 tw17351889990862332458 tw17306510175079594467 tw1729678330560042760 tw17220201042000023316 tw17133490162329217773 tw17069479740247449383 tw17067162616330634266 tw16926673996131839813 tw16857668987719926595 tw1680417129983792340 tw16797212789179197736 tw16745229899149018587 tw16566110282908981156 tw16483534300292677945 tw16418559502717599552 tw16384779339813200845 tw16242059782973662508 tw16236274374381063530 tw1617985115359469499 tw16101742326832587106 tw16069785426898561647 tw1604527537055751891 tw15831490826125205813 tw15767387863645008174 tw15718363080879244399 tw15710808640514898989 tw15626091097510201729 tw15600963765624354769 tw15590434352483087464 tw15511716411586769977 tw15479176821372829104 tw15367731271401326851 tw15347008238888922350 tw1534609439453973908 tw15224841671766892942 tw15220492271210876794 tw15219618600716946899 tw15172699552292988515 tw15115205125897045438 tw15086706254933288233 tw14973038932032704744 tw14918581053368214901 tw14888829677065397377 tw14841525270285890050 tw14800103711594046494 tw14787648668209617566 tw14778651181459133605 tw14741896728384053607 tw14738782560202692706 tw14670958392344106713 tw14660322910947512369 tw14485637476951985219 tw14484824460309651701 tw14480634271011751030 tw14456549949710708548 tw14435257097366337481 tw14199563497251207828 tw14182036006047251415 tw14174954353158786940 tw14070574771901208287 tw14001209668152430927 tw13967679705425206343 tw13733557573786912893 tw13721579898059582397 tw13703309380725754089 tw13634603293693941054 tw13626667626335797729 tw13615495581574484495 tw13607859145251800690 tw13476863250481937717 tw13452354932315045253 tw13449632672389336494 tw13418101022014607473 tw13296517398938159565 tw13254424994901175030 tw13253714479447811537 tw13245846603661532070 tw13226916137687541964 tw13198618075196633113 tw13170856986946571134 tw13103701566615464110 tw12986796226726697902 tw12900495837317971476 tw12705624216495101820 tw12653694772140604673 tw12560720156001282059 tw12501356569147407756 tw12444103993169714955 tw12341391250721570034 tw1232903687868182871 tw12270423316230162831 tw12223227453757035228 tw12219330643428517553 tw12213716646917620976 tw12110512919941002888 tw12090962767142949520 tw12031727068471550896 tw1201941713089296266 tw11950328306261174543 tw11924409181956509753 tw11919192915533350726 tw11875467358455303776 tw11833192021351762737 tw11743807204195596848 tw11716836573398331288 tw11711012648980951635 tw11704407161484563254 tw11702505671492994094 tw11610564451767333966 tw11516923589488904071 tw11495754275930303234 tw11481514135329915480 tw11449439228411611586 tw1135518839220476482 tw1126144009557525414 tw11215192538747511552 tw11196910530341791392 tw11175695575004179244 tw11170729923873422924 tw11133007959306031978 tw11053919969101618483 tw10908218796924962260 tw10684127964606251947 tw10471929550239339 tw10470194591850213473 tw1037688212065460585 tw10307030399437332076 tw10302059557914445356 tw10291210611709702709 tw10288783657992789907 tw10246851740615268798 tw10177776933564196418 tw10164964322655343141 tw10083576253251428657:True)
open PySem PySem.W PyProof.Rows
set_option maxRecDepth 100000 in
set_option maxHeartbeats 0 in
theorem PySem.Challenge.cw_roadsettings_k24_the_store_changed_besid_holds : PySem.Challenge.rw_roadsettings_k24_the_store_changed_besid.Holds := by
  w_on; o_law; k_head; (case hw => w_witness2)
  k_fill
  refine' K24.walk (l := PySem.Challenge.rw_roadsettings_k24_the_store_changed_besid) (P_leaf_of := 46) (P_Store_pairs := 205) rfl rfl (fun w h Y => ⟨PySem.W.km_in_of Y, PySem.W.km_tabs_of Y⟩) ?hK ?hP0 ?hP1 (by decide) ?F
  case hP0 => decide
  case hP1 => decide
  case hK =>
    intro w b hb
    simp only [List.mem_cons, List.not_mem_nil, or_false] at hb
    rcases hb with rfl | rfl
    · exact ⟨by kernel_rfl, 50, by kernel_rfl⟩
    · exact ⟨by kernel_rfl, 209, by kernel_rfl⟩
  case F =>
    intro w mg fa h KX G hmg
    refine' K24.all_mk KX G hmg ?_ ?_ ?_ ?_ ?_ ?_ ?_ ?_ ?_ ?_ ?_ ?_ ?_ ?_ ?_ ?_ ?_ ?_ ?_ ?_ ?_ ?_ ?_ ?_ ?_ ?_ ?_ ?_ ?_ ?_ ?_ ?_ ?_ ?_ ?_ ?_ ?_ ?_ ?_ ?_ ?_ ?_ ?_ ?_ ?_ ?_ ?_ ?_ ?_ ?_ ?_ ?_ ?_ ?_ ?_ ?_ ?_ ?_ ?_ ?_ ?_ ?_ ?_ ?_ ?_ ?_ ?_ ?_ ?_ ?_ ?_ ?_ ?_ ?_ ?_ ?_ ?_ ?_ ?_ ?_ ?_ ?_ ?_ ?_ ?_ ?_ ?_ ?_ ?_ ?_ ?_ ?_ ?_ ?_ ?_ ?_
    all_goals try (first | refine ⟨⟨by k_is, by k_is, by k_is⟩, ⟨_, _, _, _, _, _, _, _, _, rfl, by k_is, by k_is⟩, by k_is⟩ | refine ⟨by k_is, ⟨_, _, _, _, _, _, _, _, _, rfl, by k_is, by k_is⟩, by k_is⟩ | refine ⟨by k_is, ⟨by k_is, by k_is, by k_is, by k_is⟩, by k_is, by k_is⟩ | refine ⟨⟨by k_is, by k_is, by k_is⟩, ⟨_, _, _, _, _, _, _, _, rfl, by k_is, by k_is⟩, by k_is, by kernel_rfl⟩ | refine ⟨by k_is, ⟨_, _, _, _, _, _, _, _, rfl, by k_is, by k_is⟩, by k_is, by kernel_rfl⟩ | (show _ = _; first | k_is | kernel_rfl))
