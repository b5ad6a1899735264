import PyProof.Rows.All
import Wide.All
import OpenK.AllK
import Wide.FinOn
import Lean
import PyProof.EqAt
import PyProof.EqKinds
import PyProof.TupleCall
import PyProof.AutoListH
import PyProof.ExcBaseAll.ValueError
import PyProof.ExcAttrAll.ValueError
import KE.KEqDict
import PySem.Challenge.RW_roadsettings_k26_looks_spoilt_anywhere
open PySem.W renaming Frag→Qa, nsIn→Qz, findIn→QL, mg_none_of→QR, kia_one→QX, emptyDict→Gi, instObj→Gv, keepIn→Ja, kitOne→JC, kitx_list→JZ, kitx_dict→Pa, fnOf→Pc, plainGet→Pq, plainGet_of→Ta, lookIn→Tn, kitx_tuple→To, methodObj→TU, hasDictIn→TY, cellsFrom_some→SY, takerIn→Rn, makesIn→Ro, OpenLaw→Ru, methodCall_KW→Rz, codeIn→RL, callWith_K0→RZ, mg_of→Om, kitx_float→Os, callWith_K→Ou, isFn→OR, plainOver→OS, kitx_none→OT, kitx_bool→OU, handedIn→Nu, kitx_int→Nw, kitx_str→Nx, kitx_own→Ny
open PySem renaming wpAny_bind→Qb, Value→Qc, Shared→Qe, sizeLine→Qg, wpAny_pure→Qh, Program→Qk, FuncData→Qm, wpAny→Qq, mainGlobals→Qr, World→Qs, model→Qw, starEach→QA, boot_len→QC, Around→QD, PyData→QM, wpAny_field→QN, wpAny_holding→QS, wpAny_callSpecial?_slot→QV, wpAny_truthy_bool→Ga, wpAny_Call_Name_kw→Gb, wpAny_newObj_type→Gd, compareOp→Ge, wpAny_seqItems→Gf, sizeLine_eq→Gg, sliceBounds→Gm, wpAny_call_entry→Go, wpAny_setField_rec→Gr, wpAny_mono→GE, wpAny_passesOwn→GJ, foldedSetIterable→GL, strIterType→GO, sysModules→GQ, behindInMarks→GS, wpAny_standAt→GT, mem_of_lookup→GW, backTo→GZ, wpAny_getItem_str_slice→Jb, keywordEach→Jg, wpAny_rule→Jh, IsPair→Jl, rawInt→Jv, bootBuiltins→JI, holding→JL, wpAny_typeOf→JM, binaryOp→JQ, attributeBase→JR, wpAny_pyIter_tuple→JT, bindName→JX, wpAny_bindName→JY, codeAny_mono→Pb, wpAny_pyIter_enum→Pg, wpAny_pyIter_zip→Pu, assignInOrder→Px, wpAny_onRaise→PD, wpAny_loadName_local→PH, backToKw→PJ, NameKind→PL, wpAny_updateSeq_pair→PN, wpAny_execs_nil→PQ, letOwnedTupleGo→PR, post_val_or_str→PU, codeAny→Tc, call_meetsIn→Te, Builtin→Tg, assignEach→Tk, wpAny_newFunctionEnv_cells→Tp, call_meets→Tu, tupleKind_room_in1→Tv, wpAny_letOwnedTupleGo_enum→Tw, IsZip→TH, wpAny_letOwnedTupleGo_zip→TL, standAt→TW, wpAny_sequenceKey→Sb, slot_list_getitem→Sc, wpAny_of_eq→Se, wpAny_letGo→Sf, Paired→Sk, pyNext→Sm, wpAny_getItem_list_slice→So, wpAny_comprehension_free→Sq, wpAny_attempt→Sr, tupleKind→Sv, wpAny_execs_cons→Sw, swapsWith→Sx, getMethod→Sy, wpAny_pyNext_enum_itemD→SG, builtinsNs→SO, assign→SS, Keyword→SW, IsPart→Ra, valueAt→Rc, codeAny_builtin→Rq, wpAny_isTrue_Compare1→Ry, recursionLimit→RI, callWith→RJ, lookup_relabel_local→RM, codeAny_call_builtin→RN, wpAny_listPart→RS, BindsTo→RU, callerA→RV, wpAny_loadName_cell→RW, wpAny_Tuple_spliced→RY, swapsWithSole→Oe, swappedStores→Of, evalPart_none→Og, wpAny_Name→Op, wpAny_Constant_int→Oq, wpAny_call→Ot, typeIs_str→Ox, sliceRange→OA, getattributeRaised→OD, str_of_reads→OI, Within→OL, GenState→OM, setItem→ON, wpAny_assign_Name→OO, wpAny_pyIter_list→OQ, cLine→OV, wpAny_evalAll_nil→OX, getItem→OZ, seqIndex_neg→Na, wpAny_Call_method→Nf, wpAny_pyIter_strU→Ng, ZipApart→Nk, field→Nn, slot_list_setitem→Nq, Result→Nv, slicePick→NB, checkBuiltinCall→ND, take_succ_filter→NH, wpAny_isInstance→NI, CmpOp→NJ, bindL→NK, wpAny_Slice→NL, seqIndex_of→NM, exec_Assign_arm→NP, call_tuple_list→NR
open PySem.Heap renaming get?_push_of_some→Qd, lt_size→Qi, get?_push_size→Ql, size_push→Gj, get?_push_cases→JE, SameBut→Tb, size_update→SH, get?_update_other→Rb, get?_update_self→RA, get?_push_ne→Nj
open Nat renaming le_refl→Qf, le_trans→Qo, ne_of_lt→Qt, zero_le→Qx, lt_of_lt_of_le→QB, lt_of_le_of_lt→QW, ne_of_gt→GC, lt_irrefl→GR, add_le_add_left→GY, le_add_right→Jc, add_lt_add_iff_left→Jd, lt_add_of_pos_right→Je, sub_self→Jn, lt_succ_of_lt→Jy, le_succ→JD, mul_le_mul_right→JF, le_of_lt→JJ, min_eq_left→PV, strongRecOn→PY, le_of_eq→Td, add_sub_cancel→TJ, lt_succ_self→Sz, min_eq_right→SK, not_lt→Oz, min_self→Nh, pow_zero→Nm, succ_ne_self→NE, mod_eq_of_lt→NG, mod_one→NO, min_le_left→NY
open List renaming getElem?_eq_some_iff→Qj, replicate→QE, getElem?_zip_eq_some→Gn, getElem_mem→Gp, getElem?_cons_succ→Gu, range→Gw, drop_eq_getElem_cons→GI, replicate_succ→GX, length_eq_zero_iff→Jf, drop_eq_nil_of_le→Jk, mem_iff_getElem?→Jw, append_assoc→Jx, lookup→JB, exists_cons_of_ne_nil→JG, map_congr_left→JO, forIn_cons→JS, flatten_cons→Pe, pairwise_map→Ph, length_replicate→Pi, length_filter_le→Pj, filter_cons→Ps, mem_append_left→PF, mem_filter→PP, filterMap_map→Tr, nodup_nil→TD, exists_mem_of_ne_nil→TN, length→Sa, flatMap_cons→Sd, nodup_append→Sg, foldl_append→Sh, set_comm→Sl, take_length→SF, zipIdx_cons→SM, getElem?_set_self→SQ, find?_cons_of_neg→Rh, length_nil→Rm, foldl_cons→Rp, length_zip→Rv, all_append→Rw, zipIdx_nil→Rx, filterMap_append→RB, getElem?_set_ne→RH, forIn_nil→RQ, replicate_succ'→RT, mem_map_of_mem→Ob, filter_sublist→Oc, sum_cons→Ol, foldl→Oy, getElem?_drop→OB, take_sublist→OY, map_nil→Nb, getElem?_set→Nl, cons_append→NC, range_succ→NW, filter_map→NZ
open PySem.Str renaming ofString→Qn
open Bool renaming false_ne_true→Qp, and_eq_true→QI, false_eq_true→Jj, eq_iff_iff→Jq, or_eq_true→NV
open Option.some renaming inj→Qu
open PySem.Value renaming ref→Qv, none→GP, bool→Jz, str→JH, int→Po, type→SN, float→RG
open Or renaming inl→Qy, inr→Pr
open PySem.PyData renaming int→QF, depthAll→Gy, shown→GD, hasDictAll→GN, strOk→Jo, eqvAll→Ju, eqv→JV, hasDict→Pf, shownAll→PX, tuple→Ri, showableAll→OF, canLayAll0→No, depth→Np
open PySem.F renaming plainAttrs_list→QG, slot_list_append→QO, type_list_append→QP, slot_tuple_iterator_next→GG, plainAttrs_str→Jp, slot_zip_next→Js, plainAttrs_dict→JW, slot_dict_pop→Pk, slot_dict_get→Pm, args_tuple_iterator_next_1→PZ, entry_tuple_iterator_next→Th, slot_tuple_getattribute→TK, args_zip_next_1→Sj, args_dict_pop_3→SD, args_dict_get_2→SE, slot_dict_items→SJ, entry_zip_next→SL, entry_dict_pop→Re, entry_dict_get→Rf, slot_str_index→Rk, type_str_index→Rl, slot_str_join→RE, type_str_join→RF, slot_int_rmul→NT
open Sum renaming inr→QH, inl→QY
open PySem.Builtin.SmallTypes renaming nextOf→QJ, ownedTupleIsFree→QQ, ownedTupleHandOut→JP
open PyProof.Rows renaming slot_tuple_getitem→QK, callWith_type1→Gh, seqObj→Gk, assignInOrder_cons→GF, subscriptTail_builtinR→Pd, StrsAre→Py, listUpdate_at→Pz, AllBare→TV, assignInOrder_nil→TX, envOfC→SX, get?_update_seq→Rt, entry_tuple_getitem→Oa, Constant_none→Od, subscriptTail→Oh, arrOf→Oj, args_tuple_getitem→Ov, Subscript_→Ow, size_push'→OC, IsTup→OJ, unpackItems_tuple→OP, listItems_at→Ni, callWith_builtin1→Nz, IntsAre→Ma, signs_ofString→Mb
open PySem.Obj renaming mapSeq→QT, data_mapFields→OG
open PySem.PassesOwn renaming never→QU
open True renaming intro→QZ
open PySem.Builtin.Str renaming reprChar→Gc, strSliceIndices→Tf
open Int renaming emod_lt_of_pos→Gq, emod_nonneg→Gz, toNat_natCast→GM, fdiv_eq_ediv_of_nonneg→JA, fmod_eq_emod_of_nonneg→Tl, ediv_one→SZ
open PySem.Builtin.List renaming listTooLong→Gs, listSubscript?→Ti, listFitsIndex→Tz, listAllItems→TM, listSameRef→Su
open False renaming elim→Gx
open Array renaming length_toList→GA, getElem?_eq_none→Jm, getElem?_eq_some_iff→Tx, getElem?_toList→RC, toArray_toList→RO, size_extract→OH, size_append→Nr
open PySem.Heap.SameBut renaming update→GB
open PySem.Builtin.Slice renaming slicePlaces→GH, sliceAdjust→JN, sliceApplied→Tq, slicePartIndex→NQ
open Option renaming map_some→GK, isSome_iff_exists→Sn, map_eq_some_iff→Rj, toList_some→OE, isSome_map→Nc, getD_none→NA
open PySem.Builtin.Tuple renaming tupleExact→GU, tupleItemsOf→Ts
open PySem.Calls renaming callWith_builtin→Ji, spliced_cons→JU, evalArgs_plain→PM, Name_function_global→Tj, spliced_nil→TZ, call_len_list→RX
open ForInStep renaming yield→Jr
open PySem.NameKind renaming free→Jt
open Ne renaming symm→JK
open PyProof.Rows.IsTup renaming new→Pp
open PySem.Paired renaming length→Pw
open PySem.Challenge renaming pw_roadsettings_k26_looks_spoilt_anywhere→PB
open PySem.Heap.IsSliceOf renaming new→Tt
open Sum.inr renaming inj→TQ
open List.cons renaming inj→Ss
open PySem.Builtin.Dict renaming updateFrom→SI
open PyProof renaming noPylong_small→SU
open PySem.Around renaming under→SV, under_plainId→RP
open PySem.AutoListH renaming list_insert_list_int_val_1→Rg
open PySem.SeqAt renaming compareEq_reads→RD
open PySem.Shared renaming TypeIs→Oi, heap→NN
open PySem.SeqAt.EqAt renaming int_str→On, str_int→Oo
open PySem.Code renaming isFrame→OW
open PySem.Flow renaming next→Nt
open List.Perm renaming nil_eq→NF
open PySem.Heap.DictOf renaming new→NU
open Array.Perm renaming refl→NX
set_option Elab.async false
set_option linter.all false
set_option maxRecDepth 100000
set_option maxHeartbeats 4000000
open List (all_cons all_eq_true any_cons eq_nil_of_length_eq_zero filterMap_cons find?_cons getD_eq_getElem?_getD getElem?_append_left getElem?_append_right getElem?_eq_getElem getElem?_map length_append length_cons length_drop length_map length_pos_iff length_reverse length_set length_take lookup_cons map_append map_cons map_map mem_append mem_append_right mem_cons mem_cons_of_mem mem_cons_self mem_map mem_of_getElem? mem_of_mem_drop mem_of_mem_take mem_range mem_singleton nodup_cons not_mem_nil of_mem_zip reverse_cons size_toArray take_add_one take_of_length_le)
local macro_rules | `(tactic| omega) => `(tactic| lia)
namespace L2
open PySem PySem.Spec PyProof.Rows
abbrev Zn:=Sum Int Str
def Vb:Zn->Qc->Bool
 | .inl k,v=>Value.isInt k v
 | .inr x,v=>Value.isStrOf x v
def keyH (w:Qs):Zn->Int
 | .inl k=>hashInt k
 | .inr x=>hashStr w x
theorem Yu:∀{k:Zn}{v:Qc},Vb k v=true->(∃ i t,k=QY i/\v=Po i t)\/(∃ x t,k=QH x/\v=JH x t)
 | .inl i,v,h=>by
  obtain ⟨t,e⟩:=Value.isInt_shape (k:=i) (v:=v) h
  exact .inl ⟨i,t,rfl,e⟩
 | .inr x,v,h=>by
  obtain ⟨t,e⟩:=Value.isStrOf_shape (x:=x) (v:=v) h
  exact .inr ⟨x,t,rfl,e⟩
theorem ZgU (i:Int)(t:Tok):Vb (.inl i) (.int i t)=true:=by simp [Vb,Value.isInt]
theorem ZgV (x:Str)(t:Tok):Vb (.inr x) (.str x t)=true:=by simp [Vb,Value.isStrOf]
theorem Zmm (a b:Int):decide ((QY a:Zn)=QY b)=(a == b):=by
 by_cases e:a=b
 ·subst e;simp
 ·have h:¬ (QY a:Zn)=QY b:=fun q=>e (Sum.inl.inj q)
  rw [decide_eq_false h]
  exact (beq_eq_false_iff_ne.mpr e).symm
theorem Zmp (a b:Str):decide ((QH a:Zn)=QH b)=decide (a=b):=by
 by_cases e:a=b
 ·subst e;simp
 ·have h:¬ (QH a:Zn)=QH b:=fun q=>e (TQ q)
  rw [decide_eq_false h,decide_eq_false e]
theorem Zmn (a:Int)(b:Str):decide ((QY a:Zn)=QH b)=false:=decide_eq_false (fun q=>nomatch q)
theorem Zmo (a:Str)(b:Int):decide ((QH a:Zn)=QY b)=false:=decide_eq_false (fun q=>nomatch q)
def ZL (prog:Qk)(w:Qs):PySem.KeyKind prog w Zn where
 is:=Vb
 hash:=keyH w
 inj := fun v a b ha hb=>by
  rcases Yu ha with ⟨i,t,rfl,rfl⟩ | ⟨x,t,rfl,rfl⟩
  ·rcases Yu hb with ⟨j,u,rfl,e⟩ | ⟨y,u,rfl,e⟩
   ·injection e with e1 _;rw [e1]
   ·exact nomatch e
  ·rcases Yu hb with ⟨j,u,rfl,e⟩ | ⟨y,u,rfl,e⟩
   ·exact nomatch e
   ·injection e with e1 _;rw [e1]
 byValue:=fun k v h=>by
  rcases Yu h with ⟨i,t,rfl,rfl⟩ | ⟨x,t,rfl,rfl⟩<;>rfl
 pyHash:=fun hv h=>by
  rcases Yu hv with ⟨i,t,rfl,rfl⟩ | ⟨x,t,rfl,rfl⟩
  ·exact wpAny_pyHash_int h
  ·exact wpAny_pyHash_str h
 eqBool:=fun hu hv h=>by
  rcases Yu hu with ⟨i,t,rfl,rfl⟩ | ⟨x,t,rfl,rfl⟩
  ·rcases Yu hv with ⟨j,u,rfl,rfl⟩ | ⟨y,u,rfl,rfl⟩
   ·rw [Zmm] at h;exact wpAny_eqBool_int h
   ·rw [Zmn] at h;exact On i t y u _ _ _ _ h
  ·rcases Yu hv with ⟨j,u,rfl,rfl⟩ | ⟨y,u,rfl,rfl⟩
   ·rw [Zmo] at h;exact Oo x t j u _ _ _ _ h
   ·rw [Zmp] at h;exact wpAny_eqBool_str h
 «strs»:=fun k x t v h=>by
  rcases Yu h with ⟨i,u,rfl,e⟩ | ⟨y,u,rfl,e⟩
  ·exact nomatch e
  ·injection e with e1 _
   subst e1
   cases v<;>rfl
theorem ZfJ (prog:Qk)(w:Qs)(k:Zn)(v:Qc):(ZL prog w).is k v=Vb k v:=rfl
theorem Zev (prog:Qk)(w:Qs)(i:Int)(t:Tok):(ZL prog w).is (.inl i) (.int i t)=true:=ZgU i t
theorem Zag (prog:Qk)(w:Qs)(x:Str)(t:Tok):(ZL prog w).is (.inr x) (.str x t)=true:=ZgV x t
inductive V where
 | non | bl (b:Bool) | int (i:Int) | str (x:Str) | byt (b:Array UInt8) | flt (b:UInt64) | ref (a:Addr) | ty (n:String)
 deriving DecidableEq
def RelV:V->Qc->Prop
 | .non,u=>u=GP
 | .bl b,u=>u=Jz b
 | .int i,u=>∃ t,u=Po i t
 | .str x,u=>∃ t,u=JH x t
 | .byt b,u=>∃ t,u=Value.bytes b t
 | .flt b,u=>∃ t,u=RG b t
 | .ref a,u=>u=Qv a
 | .ty n,u=>u=SN n
abbrev Vals:List V->List Qc->Prop:=Sk RelV
theorem Vals.length (r:Vals xs us):xs.length=us.length:=Pw r
theorem Vals.get:∀{xs:List V}{us:List Qc}{i:Nat}{x:V},Vals xs us->xs[i]?=some x->∃ u,us[i]?=some u/\RelV x u
 | _,_,_,_,.nil,e=>by simp at e
 | _,_,0,_,.cons r _,e=>by simp at e;subst e;exact ⟨_,rfl,r⟩
 | _,_,i+1,x,.cons _ t,e=>by
  obtain ⟨u,h1,h2⟩:=Vals.get (i:=i) (x:=x) t (by simpa using e)
  exact ⟨u,by simpa using h1,h2⟩
theorem Vals.set (r:RelV x u):∀{xs:List V}{us:List Qc}(i:Nat),Vals xs us->Vals (xs.set i x) (us.set i u)
 | _,_,_,.nil=>.nil
 | _,_,0,.cons _ t=>.cons r t
 | _,_,i+1,.cons q t=>.cons q (Vals.set r i t)
theorem Vals.append:∀{xs ys:List V}{us z:List Qc},Vals xs us->Vals ys z->Vals (xs++ys) (us++z)
 | _,_,_,_,.nil,s=>s
 | _,_,_,_,.cons r t,s=>.cons r (Vals.append t s)
theorem Vals.take:∀{xs:List V}{us:List Qc}(n:Nat),Vals xs us->Vals (xs.take n) (us.take n)
 | _,_,0,_=>.nil
 | _,_,_+1,.nil=>.nil
 | _,_,n+1,.cons r t=>.cons r (Vals.take n t)
theorem Vals.drop:∀{xs:List V}{us:List Qc}(n:Nat),Vals xs us->Vals (xs.drop n) (us.drop n)
 | _,_,0,r=>r
 | _,_,_+1,.nil=>.nil
 | _,_,n+1,.cons _ t=>Vals.drop n t
def RelO:Option V->Option Qc->Prop
 | some v,some u=>RelV v u
 | none,none=>True
 | _,_=>False
def KV {κ:Type}:List (κ×V)->List (κ×Qc)->Prop:=Sk fun (p:κ×V) (q:κ×Qc)=>p.1=q.1/\RelV p.2 q.2
def kV:Zn->V
 | .inl i=>.int i
 | .inr x=>.str x
inductive HO where
 | lst (xs:List V)
 | tup (xs:List V)
 | dK (kvs:List (Zn×V)) | dT (kvs:List (List Zn×V))
 | set (S:Int->Bool) (n:Nat)
 | ins (C dx:Addr) (fs:List (Str×V))
 | own (x:Addr)
 | xd (fs:List (Str×V))
 | met (f x:Addr)
 | rng (lo hi:Int)
 | frz (o:Obj) (u:HO)
 | tbl (ps:Array Qc)
 | ext (φ:Heap->Prop)
abbrev Hp:=Addr->Option HO
def upd (H:Hp)(a:Addr)(o:HO):Hp:=fun b=>if b=a then some o else H b
theorem Zh {H:Hp}:upd H a o a=some o:=by unfold upd;rw [if_pos rfl]
theorem Zj (h:b≠a):upd H a o b=H b:=by unfold upd;rw [if_neg h]
theorem Zbj {H:Hp}{a b:Addr}{o u:HO}(h:H a=some o)(h':H b=some u)(d:o≠u):a≠b:=by
 intro e;subst e;rw [h] at h';exact d (Qu h')
theorem Zx {H:Hp}{a b:Addr}{o:HO}(h:H a=some o)(h':H b=none):a≠b:=by
 intro e;subst e;rw [h] at h';cases h'
section
variable (P:Qk)(w:Qs)
def ObjOk (H:Hp)(h:Heap)(a:Addr):HO->Prop
 | .lst xs=>xs.length<=Qg/\∃ (its:List Qc) (n:Nat),Vals xs its/\h.get? a=some { cls:=.type "list",data:=.seq its.toArray n }
 | .tup xs=>xs.length<=Qg/\∃ its:List Qc,Vals xs its/\OJ h a its.toArray
 | .dK kvs=>kvs.length<=Qg/\(a == GQ)=false/\∃ vs,KV kvs vs/\h.DictOf (ZL P w) a vs
 | .dT kvs=>kvs.length<=Qg/\(a == GQ)=false/\∃ xs:List (List Zn×Addr×Qc),
     Sk (fun (p:List Zn×V) (q:List Zn×Addr×Qc)=>p.1=q.1/\H q.2.1=some (.tup (p.1.map kV))/\RelV p.2 q.2.2) kvs xs /\
     ∃ o es ep,h.get? a=some o/\o.ExactDict/\o.data=.dict es ep/\es.toList=xs.map (entryOfKey (Sv (ZL P w)))/\(xs.map (·.1)).Nodup
 | .set S n=>h.SetOf (intKind P w) a S n
 | .ins C dx fs=>H dx=some (.own a)/\fs.length<=1000/\dx≠a/\h.get? a=some (Gv C dx) /\
     ∃ mA,h.Ns1 dx mA/\(∀ f,RelO (fs.lookup f) (mA f))/\OL mA (fs.map (·.1))
 | .own _=>∃ o,h.get? a=some o
 | .xd fs=>∃ mA,h.Ns1 a mA/\∀ f,RelO (fs.lookup f) (mA f)
 | .rng lo hi=>∃ t u v,h.get? a=some { cls:=.type "range",data:=.fields #[.int lo t,.int hi u,.int 1 v] }
 | .frz o u=>h.get? a=some o/\ObjOk H h a u
 | .tbl ps=>h.get? a=some { cls:=.none,data:=.fields ps }
 | .met f x=>h.get? a=some (TU (.ref f) (.ref x))
 | .ext φ=>φ h/\(∃ o,h.get? a=some o)/\∀ h1 h2:Heap,φ h1->(∀ o,h1.get? a=some o->h2.get? a=some o)->φ h2
def HOk (H:Hp)(h:Heap):Prop:=∀ a o,H a=some o->ObjOk P w H h a o
end
section
variable {P:Qk}{w:Qs}{H H':Hp}{h h':Heap}{a:Addr}{o:HO}
theorem ObjOk.lt (x:ObjOk P w H h a o):a < h.objs.size:=by
 cases o with
 | lst xs=>obtain ⟨_,_,_,_,e⟩:=x;exact Qi e
 | tup xs=>obtain ⟨_,_,_,p⟩:=x;exact p.lt
 | dK kvs=>obtain ⟨_,_,_,_,o,_,_,e,_⟩:=x;exact Qi e
 | dT kvs=>obtain ⟨_,_,_,_,o,_,_,e,_⟩:=x;exact Qi e
 | set S n=>obtain ⟨o,_,_,_,e,_⟩:=x;exact Qi e
 | ins C dx fs=>obtain ⟨_,_,_,e,_⟩:=x;exact Qi e
 | own y=>obtain ⟨_,e⟩:=x;exact Qi e
 | xd fs=>obtain ⟨_,⟨_,_,_,e,_⟩,_⟩:=x;exact Qi e
 | rng lo hi=>obtain ⟨_,_,_,e⟩:=x;exact Qi e
 | frz ob u=>obtain ⟨e,_⟩:=x;exact Qi e
 | tbl ps=>exact Qi (show h.get? a=some _ from x)
 | met f y=>exact Qi (show h.get? a=some _ from x)
 | ext φ=>obtain ⟨_,⟨_,e⟩,_⟩:=x;exact Qi e
theorem Sk.mapP {B I:Type}{F G:B->I->Prop}:∀{l₁:List B}{z:List I},Sk F l₁ z->(∀ a b,F a b->G a b)->Sk G l₁ z
 | _,_,.nil,_=>.nil
 | _,_,.cons r t,f=>.cons (f _ _ r) (Sk.mapP t f)
theorem ObjOk.stay (x:ObjOk P w H h a o)(k:∀ b u,(b=a\/H b=some (.own a))->h.get? b=some u->h'.get? b=some u)
 (J:∀ b,H b=some (.own a)->H' b=some (.own a)) (Y:∀ b xs,H b=some (.tup xs)->H' b=some (.tup xs)):ObjOk P w H' h' a o:=by
 induction o with
 | lst xs=>obtain ⟨z,G,n,r,e⟩:=x;exact ⟨z,G,n,r,k _ _ (.inl rfl) e⟩
 | tup xs=>obtain ⟨z,G,r,B,e,c⟩:=x;exact ⟨z,G,r,B,k _ _ (.inl rfl) e,c⟩
 | dK kvs=>obtain ⟨z,y,vs,r,B,es,ep,e,c⟩:=x;exact ⟨z,y,vs,r,B,es,ep,k _ _ (.inl rfl) e,c⟩
 | dT kvs =>
  obtain ⟨z,y,xs,r,B,es,ep,e,c⟩:=x
  exact ⟨z,y,xs,Sk.mapP r fun p q z=>⟨z.1,Y _ _ z.2.1,z.2.2⟩,B,es,ep,k _ _ (.inl rfl) e,c⟩
 | set S n=>obtain ⟨B,es,ep,t,e,c⟩:=x;exact ⟨B,es,ep,t,k _ _ (.inl rfl) e,c⟩
 | ins C dx fs =>
  obtain ⟨d,z,ne,e,mA,⟨I,es,ep,W,c⟩,r⟩:=x
  exact ⟨J _ d,z,ne,k _ _ (.inl rfl) e,mA,⟨I,es,ep,k _ _ (.inr d) W,c⟩,r⟩
 | own y=>obtain ⟨B,e⟩:=x;exact ⟨B,k _ _ (.inl rfl) e⟩
 | xd fs=>obtain ⟨mA,⟨I,es,ep,e,c⟩,r⟩:=x;exact ⟨mA,⟨I,es,ep,k _ _ (.inl rfl) e,c⟩,r⟩
 | rng lo hi=>obtain ⟨t,u,v,e⟩:=x;exact ⟨t,u,v,k _ _ (.inl rfl) e⟩
 | frz B u ih=>obtain ⟨e,q⟩:=x;exact ⟨k _ _ (.inl rfl) e,ih q⟩
 | tbl ps =>
  have e:h.get? a=some { cls:=.none,data:=.fields ps }:=x
  show h'.get? a=some { cls:=.none,data:=.fields ps }
  exact k a _ (.inl rfl) e
 | met f y =>
  have e:h.get? a=some (TU (.ref f) (.ref y)):=x
  show h'.get? a=some (TU (.ref f) (.ref y))
  exact k a _ (.inl rfl) e
 | ext φ=>obtain ⟨p,⟨o,e⟩,st⟩:=x;exact ⟨st _ _ p fun o q=>k _ _ (.inl rfl) q,⟨o,k _ _ (.inl rfl) e⟩,st⟩
theorem HOk.lt (x:HOk P w H h)(e:H a=some o):a < h.objs.size:=(x a o e).lt
theorem HOk.fresh (x:HOk P w H h)(e:h.objs.size<=a):H a=none:=by
 cases q:H a with
 | none=>rfl
 | some u=>exact absurd (QB (x.lt q) e) (GR _)
theorem HOk.kept (x:HOk P w H h)(k:∀ b u,h.get? b=some u->h'.get? b=some u):HOk P w H h':=fun a o e =>
 (x a o e).stay (fun b u _ q=>k b u q) (fun _ q=>q) fun _ _ q=>q
theorem HOk.laid (x:HOk P w H h)(k:∀ b u,h.get? b=some u->h'.get? b=some u)(hp:h.objs.size<=a)(new:ObjOk P w (upd H a o) h' a o):HOk P w (upd H a o) h':=fun b u e=>by
 have z:=x.fresh hp
 by_cases B:b=a
 ·subst B;rw [Zh] at e;cases e;exact new
 ·rw [Zj B] at e
  exact (x b u e).stay (fun c v _ q=>k c v q) (fun c q=>by rw [Zj (Zx q z)];exact q) fun c xs q=>by rw [Zj (Zx q z)];exact q
end
def Rd (H:Hp)(a:Addr)(u:HO):Prop:=H a=some u\/∃ o,H a=some (.frz o u)
theorem Rd.ok (r:Rd H a u)(x:HOk P w H h):ObjOk P w H h a u:=by
 rcases r with r | ⟨o,r⟩
 ·exact x a u r
 ·obtain ⟨_,q⟩:=x a _ r
  exact q
def Mut:Option HO->Prop
 | some (.lst _)=>True
 | some (.dK _)=>True
 | some (.dT _)=>True
 | some (.set _ _)=>True
 | some (.ins _ _ _)=>True
 | some (.ext _)=>True
 | _=>False
section
variable {P:Qk}{w:Qs}{H:Hp}{h h':Heap}{x e:Addr}{o':HO}
theorem HOk.write (ok:HOk P w H h)(W:Mut (H x))(Z:e=x\/H e=some (.own x))(k:∀ b u,b≠e->h.get? b=some u->h'.get? b=some u)(Y:∃ u,h'.get? e=some u)
 (new:ObjOk P w (upd H x o') h' x o'):HOk P w (upd H x o') h':=fun b u q=>by
 have G:∀ c y,H c=some (.own y)->c≠x:=fun c y r z=>by subst z;rw [r] at W;exact W
 have I:∀ c xs,H c=some (.tup xs)->c≠x:=fun c xs r z=>by subst z;rw [r] at W;exact W
 by_cases J:b=x
 ·subst J;rw [Zh] at q;cases q;exact new
 ·rw [Zj J] at q
  by_cases B:b=e
  ·have q':H b=some (.own x):=by
    rcases Z with z | z
    ·exact absurd (B.trans z) J
    ·rw [B];exact z
   rw [q] at q';cases q'
   obtain ⟨v,hv⟩:=Y
   exact ⟨v,by rw [B];exact hv⟩
  ·refine (ok b u q).stay (fun c v hc r=>k c v ?_ r) (fun c r=>by rw [Zj (G c b r)];exact r) fun c xs r=>by rw [Zj (I c xs r)];exact r
   rcases hc with rfl | hc
   ·exact B
   ·rintro rfl
    rcases Z with z | z
    ·exact G c b hc z
    ·rw [hc] at z;cases z;exact J rfl
end
structure Un (fs ex:List Addr)(H H':Hp)(h h':Heap):Prop where
 keep:∀ b o,h.get? b=some o->H b=none->b ∉ fs->b ∉ ex->h'.get? b=some o
 slot:∀ b o,h.get? b=some o->H b=none->b∈fs->b ∉ ex->∃ sl,h'.get? b=some { o with slots:=sl }
 free:∀ b o,h.get? b=some o->H b=none->b ∉ ex->H' b=none
 there:∀ b o,h.get? b=some o->b ∉ ex->∃ o',h'.get? b=some o'
 tups:∀ b xs,H b=some (.tup xs)->H' b=some (.tup xs)
 frzs:∀ b o u,H b=some (.frz o u)->H' b=some (.frz o u)
 tbls:∀ b ps,H b=some (.tbl ps)->∃ more,H' b=some (.tbl (ps++more))
section
variable {fs fs' ex ex':List Addr}{H H1 H2:Hp}{h h1 h2 h':Heap}{a x e:Addr}{o:HO}
theorem Un.any (u:Un fs ex H H1 h h1)(q:h.get? b=some z)(n:H b=none)(B:b ∉ ex):∃ I,h1.get? b=some { z with slots:=I }:=by
 by_cases G:b∈fs
 ·exact u.slot b z q n G B
 ·exact ⟨z.slots,u.keep b z q n G B⟩
theorem Un.kept (k:∀ b u,h.get? b=some u->h'.get? b=some u):Un fs ex H H h h' :=
 ⟨fun b z q _ _ _=>k b z q,fun b z q _ _ _=>⟨z.slots,k b z q⟩,fun _ _ _ n _=>n,fun b z q _=>⟨z,k b z q⟩,fun _ _ q=>q,fun _ _ _ q=>q,fun _ ps q=>⟨#[],by rw [q];simp⟩⟩
theorem Un.refl:Un fs ex H H h h:=Un.kept fun _ _ q=>q
theorem Un.laid (k:∀ b u,h.get? b=some u->h'.get? b=some u)(hp:h.objs.size<=a)(z:H a=none):Un fs ex H (upd H a o) h h' where
 keep:=fun b u q _ _ _=>k b u q
 slot:=fun b u q _ _ _=>⟨u.slots,k b u q⟩
 free:=fun b u q n _=>by rw [Zj (Qt (QB (Qi q) hp))];exact n
 there:=fun b u q _=>⟨u,k b u q⟩
 tups:=fun b xs q=>by rw [Zj (Zx q z)];exact q
 frzs:=fun b u xs q=>by rw [Zj (Zx q z)];exact q
 tbls:=fun b ps q=>⟨#[],by rw [Zj (Zx q z),q];simp⟩
theorem Un.write (G:Mut (H x))(Z:e=x\/H e=some (.own x))(k:∀ b u,b≠e->h.get? b=some u->h'.get? b=some u)(J:∃ u,h'.get? e=some u):Un fs ex H (upd H x o) h h':=by
 have W:∀ b,H b=none->b≠x:=fun b n z=>by subst z;rw [n] at G;exact G
 have Y:∀ b,H b=none->b≠e:=fun b n z=>by
  subst z
  rcases Z with r | r
  ·exact W b n r
  ·rw [n] at r;cases r
 have I:∀ b u,H b=some u->¬ Mut (some u)->b≠x:=fun b u q nm z=>by subst z;rw [q] at G;exact nm G
 refine ⟨fun b u q n _ _=>k b u (Y b n) q,fun b u q n _ _=>⟨u.slots,k b u (Y b n) q⟩,fun b u q n _=>by rw [Zj (W b n)];exact n,fun b u q _=>?_,
  fun b xs q=>by rw [Zj (I b _ q fun z=>z)];exact q,fun b u xs q=>by rw [Zj (I b _ q fun z=>z)];exact q,fun b ps q=>⟨#[],by rw [Zj (I b _ q fun z=>z),q];simp⟩⟩
 by_cases B:b=e
 ·subst B;exact J
 ·exact ⟨u,k b u B q⟩
end
def trk (h:Heap)(H:Hp):List Addr:=(Gw h.objs.size).filter fun a=>(H a).isSome
def Uw (h:Heap)(H:Hp):Heap:=PySem.W.hideAll h (trk h H)
theorem ZgO (h:Heap)(H:Hp):(Uw h H).objs.size=h.objs.size:=PySem.W.hideAll_size _ _
theorem Ziv (e:h.get? b=some o)(n:H b=none):(Uw h H).get? b=some o :=
 PySem.W.hideAll_get _ e fun z=>by
  have q:(H b).isSome=true:=(PP.mp z).2
  rw [n] at q;simp at q
theorem ZkN (e:(Uw h H).get? b=some o):h.get? b=some o/\H b=none:=by
 have B:h.get? b=some o:=PySem.W.of_hideAll (trk h H) e
 refine ⟨B,?_⟩
 cases q:H b with
 | none=>rfl
 | some x =>
  have G:b∈trk h H:=PP.mpr ⟨mem_range.mpr (Qi B),by simp [q]⟩
  have z:(Uw h H).get? b=none:=PySem.W.hideAll_none (trk h H) G
  rw [z] at e;cases e
structure Mod (K:Qa)(mg:Str->Option Qc)(base:Heap):Prop where
 kin:K.In base
 glob:base.Ns Qr mg
 blt:∃ mb,base.Ns SO mb/\∀ x:Str,x≠"__name__"->mb x=JI x
 nolimit:base.NoLimit
structure Cx where
 prog:Qk
 w:Qs
 K:Qa
 mg:Str->Option Qc
 base:Heap
 A:QD
 N:List Str
 s₀:Qe
 H₀:Hp
 env:Env
 outer:List Env
 stack:List Env
 ex:List Addr
 fn:Str->Bool
 calm:Bool
 pn:List (Addr×Obj)
 xe:Qc->Qe->Prop
def Vy (l:List Env):List Addr:=l.filterMap (·.frame)
abbrev Cx.fs (X:Cx):List Addr:=Vy X.outer
def Vis (sc:Scope)(x:Str):Prop:=sc.names.lookup x=some .local\/sc.names.lookup x=some .cell\/sc.names.lookup x=some .free
def Loc (sc:Scope)(x:Str):Prop:=sc.names.lookup x=some .local\/sc.names.lookup x=some .cell
def Look (env:Env)(h:Heap)(m:Str->Option Qc)(x:Str)(u:Qc):Prop :=
 (env.kindOf x=some .local/\m x=some u)\/((env.kindOf x=some .cell\/env.kindOf x=some .free)/\∃ c,env.cells.lookup x=some c/\h.IsCell c (some u))
structure Cx.Ok (X:Cx):Prop where
 mod:Mod X.K X.mg X.base
 kind:X.env.scope.kind=.function
 glob:X.env.globals=Qr
 blt:X.env.builtins=SO
 above:X.s₀.heap.objs.size<=X.env.locals
 inj:∀ x y c,X.env.cells.lookup x=some c->X.env.cells.lookup y=some c->x=y
 has:∀ x,(X.env.kindOf x=some .cell\/X.env.kindOf x=some .free)->∃ c,X.env.cells.lookup x=some c
 cab:∀ x c,X.fn x=true->X.env.cells.lookup x=some c->X.s₀.heap.objs.size<=c
 hd:X.calm=true->X.A.handled=none
 frames:X.A.frames=some X.stack
 stk:X.stack=X.outer\/(X.stack=X.env::X.outer/\X.env.frame=some X.env.locals)
 exf:∀ b∈X.ex,b≠X.env.locals/\∀ x c,X.env.cells.lookup x=some c->c≠b
 bs:∀ b o,X.base.get? b=some o->X.s₀.heap.get? b=some o/\X.H₀ b=none
 bsz:X.base.objs.size<=X.s₀.heap.objs.size
 noex:∀ b o,X.base.get? b=some o->b ∉ X.ex
 exfs:∀ b∈X.ex,b ∉ X.fs
 funs:X.s₀.heap.FunFrames X.base X.outer
 frf:∀ b∈X.fs,X.H₀ b=none
structure Inv (X:Cx)(pins:List (Addr×Obj))(σ:List (Option V))(H:Hp)(s:Qe):Prop where
 ok:X.Ok
 os:s.os=X.s₀.os
 bare:TV s.gens
 base:Un X.fs X.ex X.H₀ H X.s₀.heap s.heap
 loc:∃ m,s.heap.Ns X.env.locals m/\∀ (i:Nat) (x:Str) (v:V),X.N[i]?=some x->σ[i]?=some (some v)->Vis X.env.scope x->∃ u,RelV v u/\Look X.env s.heap m x u
 cell:∀ x c,X.env.cells.lookup x=some c->∃ v,s.heap.IsCell c v
 free:H X.env.locals=none
 freeC:∀ x c,X.env.cells.lookup x=some c->H c=none
 pin:∀ p∈X.pn++pins,s.heap.get? p.1=some p.2/\H p.1=none/\p.1≠X.env.locals/\p.1 ∉ X.fs/\∀ v,p.2.data≠.cell v
 hok:HOk X.prog X.w H s.heap
 len:σ.length=X.N.length
section
variable {X:Cx}{pins:List (Addr×Obj)}{σ:List (Option V)}{H H':Hp}{s:Qe}{h':Heap}
theorem Cx.Ok.nofr (ok:X.Ok)(e:X.base.get? b=some o):b ∉ X.fs:=fun z=>by
 have:=(ok.funs.mem z).1
 rw [e] at this;cases this
theorem Inv.bs (I:Inv X pins σ H s):∀ b o,X.base.get? b=some o->s.heap.get? b=some o/\H b=none:=fun b o e =>
 ⟨I.base.keep b o (I.ok.bs b o e).1 (I.ok.bs b o e).2 (I.ok.nofr e) (I.ok.noex b o e),I.base.free b o (I.ok.bs b o e).1 (I.ok.bs b o e).2 (I.ok.noex b o e)⟩
theorem Inv.bk (I:Inv X pins σ H s):∀ b o,X.base.get? b=some o->s.heap.get? b=some o:=fun b o e=>(I.bs b o e).1
theorem Inv.mod (I:Inv X pins σ H s):Mod X.K X.mg X.base:=I.ok.mod
theorem Inv.kIn (I:Inv X pins σ H s):X.K.In s.heap:=I.ok.mod.kin.keeps I.bk
theorem Inv.nolimit (I:Inv X pins σ H s):s.heap.NoLimit:=I.ok.mod.nolimit.keeps I.bk
theorem Inv.lt (I:Inv X pins σ H s):X.env.locals < s.heap.objs.size:=let ⟨_,hn,_⟩:=I.loc;hn.lt
theorem Inv.sz (I:Inv X pins σ H s):X.s₀.heap.objs.size<=s.heap.objs.size:=Qo I.ok.above (JJ I.lt)
theorem Inv.nofs (I:Inv X pins σ H s)(h:s.heap.objs.size<=a):a ∉ X.fs:=fun B=>by
 obtain ⟨_,o,z,_⟩:=I.ok.funs.mem B
 exact absurd (QB (Qi z) (Qo I.sz h)) (GR _)
theorem Inv.cne (I:Inv X pins σ H s):∀ x c,X.env.cells.lookup x=some c->c≠X.env.locals:=fun x c e z=>by
 obtain ⟨v,o,J,W⟩:=I.cell x c e
 obtain ⟨m,⟨o',es,ep,G,B,_⟩,_⟩:=I.loc
 rw [z,G] at J;cases J;rw [B] at W;cases W
theorem Inv.funs (I:Inv X pins σ H s):s.heap.FunFrames X.base X.outer:=by
 have all:∀ (l:List Env),(∀ b∈Vy l,b∈X.fs)->X.s₀.heap.FunFrames X.base l->s.heap.FunFrames X.base l:=by
  intro l
  induction l with
  | nil=>intro _ _;trivial
  | cons env r ih =>
   intro W Z
   obtain ⟨hk,⟨L,o,B,hn,Y,hd⟩,hr⟩:=Z
   have J:L∈X.fs:=W L (by unfold Vy;rw [filterMap_cons,B];exact mem_cons_self)
   obtain ⟨sl,e⟩:=I.base.slot L o Y (I.ok.frf L J) J fun z=>I.ok.exfs L z J
   exact ⟨hk,⟨L,_,B,hn,e,hd⟩,ih (fun b G=>W b (by unfold Vy;rw [filterMap_cons,B];exact mem_cons_of_mem _ G)) hr⟩
 exact all X.outer (fun _ G=>G) I.ok.funs
theorem Inv.stack (I:Inv X pins σ H s):s.heap.FunFrames X.base X.stack:=by
 rcases I.ok.stk with e | ⟨e,z⟩
 ·rw [e];exact I.funs
 ·rw [e]
  obtain ⟨m,B,_⟩:=I.loc
  refine .cons (by rw [I.ok.kind];decide) z B ?_ I.funs
  exact Heap.get?_none_of_le (Qo I.ok.bsz I.ok.above)
theorem Inv.stkSub (I:Inv X pins σ H s):∀ b∈Vy X.stack,b∈X.env.locals::X.fs:=fun b z=>by
 rcases I.ok.stk with e | ⟨e,B⟩
 ·rw [e] at z;exact mem_cons_of_mem _ z
 ·rw [e] at z
  unfold Vy at z
  rw [filterMap_cons,B] at z
  exact z
theorem Inv.stkFree (I:Inv X pins σ H s):∀ b∈Vy X.stack,H b=none:=fun b hb=>by
 rcases mem_cons.mp (I.stkSub b hb) with e | hb
 ·rw [e];exact I.free
 ·obtain ⟨_,o,B,_⟩:=I.ok.funs.mem hb
  exact I.base.free b o B (I.ok.frf b hb) fun z=>I.ok.exfs b z hb
theorem Inv.step {g':Array OM}{t':Nat}{d':Drawn}{ch:List Addr}(I:Inv X pins σ H s)
 (J:∀ b∈ch,(b∈X.ex\/X.s₀.heap.objs.size<=b)/\b≠X.env.locals/\(∀ x c,X.env.cells.lookup x=some c->c≠b)/\∀ p∈X.pn++pins,p.1≠b)
 (keep:∀ b o,b≠X.env.locals->b ∉ X.fs->b ∉ ch->s.heap.get? b=some o->H b=none->h'.get? b=some o)
 (slot:∀ b o,b≠X.env.locals->b∈X.fs->b ∉ ch->s.heap.get? b=some o->H b=none->∃ sl,h'.get? b=some { o with slots:=sl }) (G:∀ b o,b ∉ ch->s.heap.get? b=some o->H b=none->H' b=none)
 (there:∀ b o,b ∉ ch->s.heap.get? b=some o->∃ o',h'.get? b=some o')
 (tups:∀ b xs,H b=some (.tup xs)->H' b=some (.tup xs)) (frzs:∀ b o u,H b=some (.frz o u)->H' b=some (.frz o u)) (tbls:∀ b ps,H b=some (.tbl ps)->∃ more,H' b=some (.tbl (ps++more)))
 (ns:∀ m,s.heap.Ns X.env.locals m->h'.Ns X.env.locals m) (hok:HOk X.prog X.w H' h') (hg:TV g') :
 Inv X pins σ H' { s with heap:=h',gens:=g',drawn:=d',toks:=t' }:=by
 have neL:∀ b o,X.s₀.heap.get? b=some o->b≠X.env.locals:=fun b o e=>Qt (QB (Qi e) I.ok.above)
 have Z:∀ b o,X.s₀.heap.get? b=some o->b ∉ X.ex->b ∉ ch:=fun b o e B hb=>by
  rcases (J b hb).1 with z | z
  ·exact B z
  ·exact absurd (QB (Qi e) z) (GR _)
 have W:∀ x c,X.env.cells.lookup x=some c->∀ v,s.heap.IsCell c v->h'.IsCell c v:=fun x c e v ⟨o,ho,hd⟩=>by
  have Y:c ∉ ch:=fun z=>(J c z).2.2.1 x c e rfl
  by_cases hc:c∈X.fs
  ·obtain ⟨sl,q⟩:=slot c o (I.cne x c e) hc Y ho (I.freeC x c e)
   exact ⟨_,q,hd⟩
  ·exact ⟨o,keep c o (I.cne x c e) hc Y ho (I.freeC x c e),hd⟩
 refine ⟨I.ok,I.os,hg,⟨fun b o e n hb B=>?_,fun b o e n hb B=>?_,fun b o e n B=>?_,fun b o e B=>?_,fun b xs e=>tups b xs (I.base.tups b xs e),fun b o xs e=>frzs b o xs (I.base.frzs b o xs e),fun b ps e=>?_⟩,?_,fun x c e=>?_,?_,fun x c e=>?_,fun p hp=>?_,hok,I.len⟩
 ·exact keep b o (neL b o e) hb (Z b o e B) (I.base.keep b o e n hb B) (I.base.free b o e n B)
 ·obtain ⟨sl,e1⟩:=I.base.slot b o e n hb B
  obtain ⟨sl',e2⟩:=slot b _ (neL b o e) hb (Z b o e B) e1 (I.base.free b o e n B)
  exact ⟨sl',e2⟩
 ·obtain ⟨o',e1⟩:=I.base.there b o e B
  exact G b o' (Z b o e B) e1 (I.base.free b o e n B)
 ·obtain ⟨o',e1⟩:=I.base.there b o e B
  exact there b o' (Z b o e B) e1
 ·obtain ⟨m1,e1⟩:=I.base.tbls b ps e
  obtain ⟨m2,e2⟩:=tbls b _ e1
  exact ⟨m1++m2,by rw [e2,Array.append_assoc]⟩
 ·obtain ⟨m,hn,hl⟩:=I.loc
  refine ⟨m,ns m hn,fun i x v e1 e2 e3=>?_⟩
  obtain ⟨u,r,l⟩:=hl i x v e1 e2 e3
  refine ⟨u,r,?_⟩
  rcases l with l | ⟨k,c,e,z⟩
  ·exact .inl l
  ·exact .inr ⟨k,c,e,W x c e _ z⟩
 ·obtain ⟨v,z⟩:=I.cell x c e
  exact ⟨v,W x c e v z⟩
 ·obtain ⟨m,⟨o,_,_,ho,_⟩,_⟩:=I.loc
  exact G _ o (fun z=>(J _ z).2.1 rfl) ho I.free
 ·obtain ⟨v,o,ho,hd⟩:=I.cell x c e
  exact G c o (fun z=>(J c z).2.2.1 x c e rfl) ho (I.freeC x c e)
 ·obtain ⟨e,n,ne,nf,d⟩:=I.pin p hp
  have Y:p.1 ∉ ch:=fun z=>(J p.1 z).2.2.2 p hp rfl
  exact ⟨keep p.1 p.2 ne nf Y e n,G p.1 p.2 Y e n,ne,nf,d⟩
theorem Inv.un {t':Nat}(I:Inv X pins σ H s)(u:Un X.fs [] H H' s.heap h')(W:HOk X.prog X.w H' h'):Inv X pins σ H' { s with heap:=h',toks:=t' }:=by
 obtain ⟨m,⟨o,es,ep,Z,r⟩,_⟩:=id I.loc
 obtain ⟨sl,hL⟩:=u.any Z I.free (by simp)
 exact I.step (g':=s.gens) (d':=s.drawn) (ch:=[]) (fun _ z=>nomatch z) (fun b o _ J _ e n=>u.keep b o e n J (by simp)) (fun b o _ J _ e n=>u.slot b o e n J (by simp)) (fun b o _ e n=>u.free b o e n (by simp)) (fun b o _ e=>u.there b o e (by simp)) u.tups u.frzs u.tbls (fun m' hm=>by
  obtain ⟨o',Y,G,B,r'⟩:=hm
  rw [Z] at B;cases B
  exact ⟨_,Y,G,hL,r'⟩) W I.bare
theorem Inv.call {g':Array OM}{t':Nat}(I:Inv X pins σ H s)(u:Un (Vy X.stack) ch H H' s.heap h')(Y:HOk X.prog X.w H' h')(hg:TV g')(G:∀ b∈ch,(b∈X.ex\/X.s₀.heap.objs.size<=b)/\b≠X.env.locals/\(∀ x c,X.env.cells.lookup x=some c->c≠b)/\∀ p∈X.pn++pins,p.1≠b):
 Inv X pins σ H' { s with heap:=h',gens:=g',drawn:=d',toks:=t' }:=by
 obtain ⟨m,⟨o,es,ep,ho,r⟩,_⟩:=id I.loc
 obtain ⟨sl,hL⟩:=u.any ho I.free fun z=>(G _ z).2.1 rfl
 exact I.step (ch:=ch) G (fun b o hL hb B e n=>u.keep b o e n (fun z=>(mem_cons.mp (I.stkSub b z)).elim hL hb) B) (fun b o _ _ B e n=>u.any e n B) (fun b o B e n=>u.free b o e n B) (fun b o B e=>u.there b o e B) u.tups u.frzs u.tbls (fun m' hm=>by
  obtain ⟨o',Z,W,J,r'⟩:=hm
  rw [ho] at J;cases J
  exact ⟨_,Z,W,hL,r'⟩) Y hg
theorem Inv.turned {t':Nat}(I:Inv X pins σ H s)(k:∀ b o,b≠B->s.heap.get? b=some o->h'.get? b=some o)(hn:H B=none)(W:B≠X.env.locals)(h1:B∈X.ex\/X.s₀.heap.objs.size<=B)(h2:∀ x c,X.env.cells.lookup x=some c->c≠B)(h3:∀ p∈X.pn++pins,p.1≠B):Inv X pins σ H { s with heap:=h',toks:=t' }:=by
 have J:∀ b u,H b=some u->b≠B:=fun b u e z=>by rw [z,hn] at e;cases e
 refine I.step (g':=s.gens) (d':=s.drawn) (ch:=[B]) (fun b Z=>?_) (fun b o _ _ G e _=>k b o (fun z=>G (by simp [z])) e) (fun b o _ _ G e _=>⟨o.slots,k b o (fun z=>G (by simp [z])) e⟩) (fun _ _ _ _ n=>n)
  (fun b o G e=>⟨o,k b o (fun z=>G (by simp [z])) e⟩) (fun _ _ e=>e) (fun _ _ _ e=>e) (fun b ps e=>⟨#[],by rw [e];simp⟩) (fun m Y=>?_) (fun b u e=>?_) I.bare
 ·have e:b=B:=by simpa using Z
  subst e
  exact ⟨h1,W,h2,h3⟩
 ·obtain ⟨o,es,ep,ho,r⟩:=Y
  exact ⟨o,es,ep,k _ o (JK W) ho,r⟩
 ·refine (I.hok b u e).stay (fun c v G q=>k c v ?_ q) (fun _ q=>q) fun _ _ q=>q
  rcases G with z | z
  ·rw [z];exact J b u e
  ·exact J c _ z
theorem Inv.tok (I:Inv X pins σ H s)(t:Nat):Inv X pins σ H { s with toks:=t }:=I.un (h':=s.heap) (t':=t) Un.refl I.hok
theorem Inv.kept {t':Nat}(I:Inv X pins σ H s)(k:∀ b u,s.heap.get? b=some u->h'.get? b=some u):Inv X pins σ H { s with heap:=h',toks:=t' }:=I.un (Un.kept k) (I.hok.kept k)
theorem Inv.laid {a:Addr}{t':Nat}(I:Inv X pins σ H s)(k:∀ b u,s.heap.get? b=some u->h'.get? b=some u)(hp:s.heap.objs.size<=a)(new:ObjOk X.prog X.w (upd H a o) h' a o):
 Inv X pins σ (upd H a o) { s with heap:=h',toks:=t' }:=I.un (Un.laid k hp (I.hok.fresh hp)) (I.hok.laid k hp new)
theorem Inv.write {x e:Addr}{t':Nat}(I:Inv X pins σ H s)(B:Mut (H x))(G:e=x\/H e=some (.own x))(k:∀ b u,b≠e->s.heap.get? b=some u->h'.get? b=some u)(z:∃ u,h'.get? e=some u)(new:ObjOk X.prog X.w (upd H x o) h' x o):Inv X pins σ (upd H x o) { s with heap:=h',toks:=t' }:=I.un (Un.write B G k z) (I.hok.write B G k z new)
theorem Inv.pins_of (I:Inv X pins σ H s)(h:∀ p∈B,s.heap.get? p.1=some p.2/\H p.1=none/\p.1≠X.env.locals/\p.1 ∉ X.fs/\∀ v,p.2.data≠.cell v):Inv X B σ H s :=
 ⟨I.ok,I.os,I.bare,I.base,I.loc,I.cell,I.free,I.freeC,fun p hp=>(mem_append.mp hp).elim (fun z=>I.pin p (PF _ z)) (h p),I.hok,I.len⟩
theorem ZdH {N:List Str}(B:N.Nodup){i j:Nat}{x:Str}(a:N[i]?=some x)(b:N[j]?=some x):i=j:=by
 obtain ⟨h1,e1⟩:=Qj.mp a
 obtain ⟨h2,z⟩:=Qj.mp b
 exact (List.getElem_inj B).mp (e1.trans z.symm)
theorem ZcC {i:Nat}(I:Inv X pins σ H s)(hN:X.N.Nodup)(hi:X.N[i]?=some x)(J:Loc X.env.scope x)(r:RelV v u)(h:∀ s',Inv X pins (σ.set i (some v)) H s'->(∃ a,Tb a s.heap s'.heap/\(a=X.env.locals\/X.env.cells.lookup x=some a))->Q () s')(hf:X.fn x=true\/X.env.scope.names.lookup x=some .local:=by first | exact .inl rfl | exact .inr rfl | assumption):Qq M A (storeName X.env x u) Q E s:=by
 obtain ⟨m,hn,hl⟩:=id I.loc
 have hcls:(X.env.scope.kind == .class || (X.env.scope.kind == .module&&X.env.locals != X.env.globals))=false:=by rw [I.ok.kind];rfl
 have Z:i < σ.length:=by rw [I.len];exact (Qj.mp hi).1
 have cne:=I.cne
 have G:∀ {a:Addr} {h':Heap},(∃ o,s.heap.get? a=some o/\H a=none)->Tb a s.heap h'->HOk X.prog X.w H h':=fun {a h'} ha B b ob e=>by
  obtain ⟨_,_,W⟩:=ha
  refine (I.hok b ob e).stay (fun c w' hc q=>(B.2 c ?_).trans q) (fun _ q=>q) fun _ _ q=>q
  rintro rfl
  rcases hc with rfl | hc
  ·rw [W] at e;cases e
  ·rw [W] at hc;cases hc
 rcases J with hk | hk
 ·refine wpAny_storeName_local hk hn (fun h' hn' B=>?_) hcls
  obtain ⟨oL,_,_,hoL,_⟩:=id hn
  refine h _ ⟨I.ok,I.os,I.bare,⟨fun b o e n hb J=>?_,fun b o e n hb J=>?_,I.base.free,fun b o e J=>?_,I.base.tups,I.base.frzs,I.base.tbls⟩,⟨_,hn',fun j y v' e1 Y e3=>?_⟩,fun y c e=>?_,I.free,I.freeC,fun p hp=>?_,G ⟨oL,hoL,I.free⟩ B,by simpa using I.len⟩ ⟨_,B,.inl rfl⟩
  ·exact (B.2 b (Qt (QB (Qi e) I.ok.above))).trans (I.base.keep b o e n hb J)
  ·obtain ⟨sl,e1⟩:=I.base.slot b o e n hb J
   exact ⟨sl,(B.2 b (Qt (QB (Qi e) I.ok.above))).trans e1⟩
  ·obtain ⟨o',e1⟩:=I.base.there b o e J
   exact ⟨o',(B.2 b (Qt (QB (Qi e) I.ok.above))).trans e1⟩
  ·by_cases hj:j=i
   ·subst hj
    rw [hi] at e1;cases e1
    rw [SQ Z] at Y
    cases Y
    exact ⟨u,r,.inl ⟨hk,by simp⟩⟩
   ·rw [RH (JK hj)] at Y
    obtain ⟨u',r',q⟩:=hl j y v' e1 Y e3
    refine ⟨u',r',?_⟩
    rcases q with ⟨k,e⟩ | ⟨k,c,e,z⟩
    ·refine .inl ⟨k,?_⟩
     have:y≠x:=fun e=>hj (ZdH hN e1 (e ▸ hi))
     simp [this,e]
    ·exact .inr ⟨k,c,e,z.sameBut B (cne y c e)⟩
  ·obtain ⟨w',z⟩:=I.cell y c e
   exact ⟨w',z.sameBut B (cne y c e)⟩
  ·obtain ⟨e,n,ne,nf,d⟩:=I.pin p hp
   exact ⟨(B.2 p.1 ne).trans e,n,ne,nf,d⟩
 ·have hfn:X.fn x=true:=by
   rcases hf with z | z
   ·exact z
   ·rw [z] at hk;cases hk
  obtain ⟨c,hc⟩:=I.ok.has x (.inl hk)
  obtain ⟨w',z⟩:=I.cell x c hc
  refine wpAny_storeName_cell I.ok.kind hk hc z (fun h' hc' B=>?_)
  obtain ⟨oc,hoc,hocd⟩:=id z
  refine h { s with heap:=h' } ⟨I.ok,I.os,I.bare,⟨fun b o e n hb J=>?_,fun b o e n hb J=>?_,I.base.free,fun b o e J=>?_,I.base.tups,I.base.frzs,I.base.tbls⟩,⟨m,hn.sameBut B (JK (cne x c hc)),fun j y v' e1 Y e3=>?_⟩,fun y c' e=>?_,I.free,I.freeC,fun p hp=>?_,G ⟨oc,hoc,I.freeC x c hc⟩ B,by simpa using I.len⟩ ⟨c,B,.inr hc⟩
  ·exact (B.2 b (Qt (QB (Qi e) (I.ok.cab x c hfn hc)))).trans (I.base.keep b o e n hb J)
  ·obtain ⟨sl,e1⟩:=I.base.slot b o e n hb J
   exact ⟨sl,(B.2 b (Qt (QB (Qi e) (I.ok.cab x c hfn hc)))).trans e1⟩
  ·obtain ⟨o',e1⟩:=I.base.there b o e J
   exact ⟨o',(B.2 b (Qt (QB (Qi e) (I.ok.cab x c hfn hc)))).trans e1⟩
  ·by_cases hj:j=i
   ·subst hj
    rw [hi] at e1;cases e1
    rw [SQ Z] at Y
    cases Y
    exact ⟨u,r,.inr ⟨.inl hk,c,hc,hc'⟩⟩
   ·rw [RH (JK hj)] at Y
    obtain ⟨u',r',q⟩:=hl j y v' e1 Y e3
    refine ⟨u',r',?_⟩
    rcases q with q | ⟨k,c',e,z'⟩
    ·exact .inl q
    ·refine .inr ⟨k,c',e,z'.sameBut B ?_⟩
     rintro rfl
     exact hj (ZdH hN e1 (I.ok.inj _ _ _ e hc ▸ hi))
  ·by_cases hcc:c'=c
   ·subst hcc;exact ⟨_,hc'⟩
   ·obtain ⟨w2,z2⟩:=I.cell y c' e
    exact ⟨w2,z2.sameBut B hcc⟩
  ·obtain ⟨e,n,ne,nf,d⟩:=I.pin p hp
   refine ⟨(B.2 p.1 ?_).trans e,n,ne,nf,d⟩
   intro q
   rw [q,hoc] at e
   have q':oc=p.2:=Qu e
   exact d w' (by rw [<- q'];exact hocd)
theorem XG {i:Nat}(I:Inv X pins σ H s)(B:X.N.Nodup)(hi:X.N[i]?=some x)(G:Loc X.env.scope x)(r:RelV v u)(h:∀ s',Inv X pins (σ.set i (some v)) H s'->Q () s')(z:X.fn x=true\/X.env.scope.names.lookup x=some .local:=by first | exact .inl rfl | exact .inr rfl | assumption):Qq M A (storeName X.env x u) Q E s :=
 ZcC I B hi G r (fun s' J _=>h s' J) z
theorem Inv.call' {ch:List Addr}(I:Inv X pins σ H s)(J:s'.os=s.os)(u:Un (Vy X.stack) ch H H' s.heap s'.heap)(B:HOk X.prog X.w H' s'.heap)(G:TV s'.gens)(z:∀ b∈ch,(b∈X.ex\/X.s₀.heap.objs.size<=b)/\b≠X.env.locals/\(∀ x c,X.env.cells.lookup x=some c->c≠b)/\∀ p∈X.pn++pins,p.1≠b):Inv X pins σ H' s':=by
 obtain ⟨h',g',d',t',o'⟩:=s'
 have e:o'=s.os:=J
 subst e
 exact I.call (g':=g') (t':=t') (d':=d') u B G z
end
abbrev XK:=Qc->Option Addr->Hp->Prop
abbrev St:=List (Option V)
abbrev VK:=V->Hp->Prop
abbrev TE:=St->Hp->VK->Prop
abbrev TT:=St->Hp->(Bool->Hp->Prop)->Prop
abbrev TA:=St->Hp->(List V->Hp->Prop)->Prop
structure YA where
 nx:St->Hp->Prop
 rt:VK
 bk:St->Hp->Prop:=fun _ _=>False
 ct:St->Hp->Prop:=fun _ _=>False
abbrev TS:=YA->St->Hp->Prop
def EP (X:Cx)(pins:List (Addr×Obj))(σ:St)(Q:VK)(u:Qc)(s':Qe):Prop:=∃ v H',Inv X pins σ H' s'/\RelV v u/\Q v H'
def TP (X:Cx)(pins:List (Addr×Obj))(σ:St)(Q:Bool->Hp->Prop)(b:Bool)(s':Qe):Prop:=∃ H',Inv X pins σ H' s'/\Q b H'
def AP (X:Cx)(pins:List (Addr×Obj))(σ:St)(Q:List V->Hp->Prop)(us:List Qc)(s':Qe):Prop:=∃ vs H',Inv X pins σ H' s'/\Vals vs us/\Q vs H'
def SP (X:Cx)(pins:List (Addr×Obj))(D:YA)(f:Flow)(s':Qe):Prop :=
 match f with
 | .next=>∃ σ' H',Inv X pins σ' H' s'/\D.nx σ' H'
 | .brk=>∃ σ' H',Inv X pins σ' H' s'/\D.bk σ' H'
 | .cont=>∃ σ' H',Inv X pins σ' H' s'/\D.ct σ' H'
 | .ret u=>∃ v σ' H',Inv X pins σ' H' s'/\RelV v u/\D.rt v H'
def PE (X:Cx)(e:Expr)(t:TE):Prop :=
 ∀ (pins:List (Addr×Obj)) (s:Qe) (σ:St) (H:Hp) (Q:VK),Inv X pins σ H s->t σ H Q->Qq (Qw X.prog X.w) X.A (eval e X.env) (EP X pins σ Q) X.xe s
def PT (X:Cx)(e:Expr)(t:TT):Prop :=
 ∀ (pins:List (Addr×Obj)) (s:Qe) (σ:St) (H:Hp) (Q:Bool->Hp->Prop),Inv X pins σ H s->t σ H Q->Qq (Qw X.prog X.w) X.A (isTrue e X.env (eval e X.env)) (TP X pins σ Q) X.xe s
def PW (X:Cx)(e:Expr)(t:TT):Prop :=
 ∀ (whole:Sem Qc) (pins:List (Addr×Obj)) (s:Qe) (σ:St) (H:Hp) (Q:Bool->Hp->Prop),Inv X pins σ H s->t σ H Q->Qq (Qw X.prog X.w) X.A (isTrue e X.env whole) (TP X pins σ Q) X.xe s
theorem PW.pt (h:PW X e t):PT X e t:=h _
def PA (X:Cx)(es:List Expr)(t:TA):Prop :=
 ∀ (pos:Pos) (pins:List (Addr×Obj)) (s:Qe) (σ:St) (H:Hp) (Q:List V->Hp->Prop),Inv X pins σ H s->t σ H Q->Qq (Qw X.prog X.w) X.A (spliced (GZ pos (QA es X.env))) (AP X pins σ Q) X.xe s
def PS (X:Cx)(st:Stmt)(t:TS):Prop :=
 ∀ (pins:List (Addr×Obj)) (s:Qe) (σ:St) (H:Hp) (D:YA),Inv X pins σ H s->t D σ H->Qq (Qw X.prog X.w) X.A (exec st X.env) (SP X pins D) X.xe s
def PSs (X:Cx)(st:List Stmt)(t:TS):Prop :=
 ∀ (pins:List (Addr×Obj)) (s:Qe) (σ:St) (H:Hp) (D:YA),Inv X pins σ H s->t D σ H->Qq (Qw X.prog X.w) X.A (execs st X.env) (SP X pins D) X.xe s
theorem Zw {B:Type}{t:Sem B}{Q z:B->Qe->Prop}{M:Model}{A:QD}{E:Qc->Qe->Prop}{s:Qe}(h:Qq M A t Q E s)(G:∀ a s,Q a s->z a s):Qq M A t z E s:=GE h G fun _ _ x=>x
section
variable {X:Cx}
inductive ZhU (i:Nat)(σ:St)(H:Hp)(Q:VK):Prop
 | mk (v:_):σ[i]?=some (some v)->Q v H->ZhU i σ H Q
def ZaH (i:Nat):TE:=fun σ H Q=>ZhU i σ H Q
def tC (v:V):TE:=fun _ H Q=>Q v H
theorem ZmJ {i:Nat}(Y:X.N[i]?=some x)(hv:Vis X.env.scope x)(G:(x == ("__debug__":Str))=false:=by decide)(J:(x == ("__classdict__":Str))=false:=by decide):PE X (.Name x pos) (ZaH i):=by
 intro pins s σ H Q I h
 obtain ⟨v,e,h⟩:=h
 obtain ⟨m,hn,hl⟩:=I.loc
 obtain ⟨u,r,l⟩:=hl i x v Y e hv
 have B:EP X pins σ Q u s:=⟨v,H,I,r,h⟩
 rcases l with ⟨hk,Z⟩ | ⟨hk,c,W,z⟩
 ·exact Op (PH I.ok.kind hk hn Z B) G
 ·rcases hk with hk | hk
  ·exact Op (RW I.ok.kind hk W z B) G
  ·exact Op (wpAny_loadName_free I.ok.kind hk W z B J) G
theorem Zc {i j pos}:PE X (.Constant (.int i) j pos) (tC (.int i)):=fun _ _ _ H _ I h=>Oq ⟨.int i,H,I.tok _,⟨_,rfl⟩,h⟩
theorem XY {b j pos}:PE X (.Constant (.bool b) j pos) (tC (.bl b)):=fun _ _ _ H _ I h=>Constant_bool ⟨.bl b,H,I,rfl,h⟩
theorem XV {j pos}:PE X (.Constant .none j pos) (tC .non):=fun _ _ _ H _ I h=>Od ⟨.non,H,I,rfl,h⟩
theorem ZM {x j pos}:PE X (.Constant (.str x) j pos) (tC (.str x)):=fun _ _ _ H _ I h=>Calls.Constant_str ⟨.str x,H,I.tok _,⟨_,rfl⟩,h⟩
def Gl (X:Cx)(x:Str):Prop:=X.env.kindOf x=some .globalImplicit
theorem ZbK (I:Inv X pins σ H s)(z:Gl X x)(G:X.mg x=some u)(h:Q u s)(B:(x == ("__debug__":Str))=false:=by decide):Qq (Qw X.prog X.w) X.A (eval (.Name x pos) X.env) Q E s :=
 Tj I.ok.kind z (Calls.loadGlobal_global (by rw [I.ok.glob];exact I.mod.glob.keeps I.bk) G h) B
theorem Wp (I:Inv X pins σ H s)(B:Gl X x)(z:X.mg x=none)(G:JI x=some u)(h:Q u s)(W:x≠"__name__":=by decide)(J:(x == ("__debug__":Str))=false:=by decide):Qq (Qw X.prog X.w) X.A (eval (.Name x pos) X.env) Q E s:=by
 obtain ⟨Y,h1,h2⟩:=I.mod.blt
 exact Tj I.ok.kind B (Calls.loadGlobal_builtin (by rw [I.ok.glob];exact I.mod.glob.keeps I.bk) z (by rw [I.ok.blt];exact h1.keeps I.bk) ((h2 x W).trans G) h) J
theorem Xy (z:Gl X x)(G:X.mg x=some u)(r:RelV v u)(B:(x == ("__debug__":Str))=false:=by decide):PE X (.Name x pos) (tC v) :=
 fun _ _ _ H _ I h=>ZbK I z G ⟨v,H,I,r,h⟩ B
theorem YZ (B:Gl X x)(z:X.mg x=none)(G:JI x=some u)(r:RelV v u)(W:x≠"__name__":=by decide)(J:(x == ("__debug__":Str))=false:=by decide):PE X (.Name x pos) (tC v) :=
 fun _ _ _ H _ I h=>Wp I B z G ⟨v,H,I,r,h⟩ W J
variable {a b:Expr}{ta tb:TE}{pos:Pos}
def PC (X:Cx)(op:NJ)(a b:Expr)(t:TE):Prop :=
 ∀ (pins:List (Addr×Obj)) (s:Qe) (σ:St) (H:Hp) (Q:VK),Inv X pins σ H s->t σ H Q ->
  Qq (Qw X.prog X.w) X.A (eval a X.env) (fun v s₁=>Qq (Qw X.prog X.w) X.A (eval b X.env) (fun u s₂=>Qq (Qw X.prog X.w) X.A (Ge op v u) (EP X pins σ Q) X.xe s₂) X.xe s₁) X.xe s
theorem ZdG (b:Expr)(h:z≠.In)(h2:z≠.NotIn):GS z b=false:=by
 have e1:(z == CmpOp.In)=false:=by cases z<;>first | rfl | exact absurd rfl h
 have B:(z == CmpOp.NotIn)=false:=by cases z<;>first | rfl | exact absurd rfl h2
 cases b<;>simp [GS,e1,B]
def tIsN (ta:TE):TE:=fun σ H Q=>ta σ H fun x H1=>Q (.bl (decide (x=.non))) H1
def Zoa (ta:TE):TE:=fun σ H Q=>ta σ H fun x H1=>Q (.bl (!decide (x=.non))) H1
theorem RelV.none_iff (r:RelV x v):(v == GP)=decide (x=.non):=by
 cases x with
 | non=>cases r;rfl
 | bl _=>cases r;rfl
 | int _=>obtain ⟨t,rfl⟩:=r;rfl
 | str _=>obtain ⟨t,rfl⟩:=r;rfl
 | byt _=>obtain ⟨t,rfl⟩:=r;rfl
 | flt _=>obtain ⟨t,rfl⟩:=r;rfl
 | ref _=>cases r;rfl
 | ty _=>cases r;rfl
theorem UH {j pos'}(J:PE X a ta):PC X .Is a (.Constant .none j pos') (tIsN ta):=by
 intro pins s σ H Q I h
 refine Zw (J pins s σ H _ I h) fun v s1 z=>?_
 obtain ⟨x,H1,B,G,W⟩:=z
 exact Od (is_none_gen ⟨.bl _,H1,B,by rw [G.none_iff];rfl,W⟩)
theorem ZbN {j pos'}(J:PE X a ta):PC X .IsNot a (.Constant .none j pos') (Zoa ta):=by
 intro pins s σ H Q I h
 refine Zw (J pins s σ H _ I h) fun v s1 z=>?_
 obtain ⟨x,H1,B,G,W⟩:=z
 exact Od (isnot_none_gen ⟨.bl _,H1,B,by rw [G.none_iff];rfl,W⟩)
inductive tB_R (Q:Bool->Hp->Prop)(x:V)(H1:Hp):Prop
 | mk (c:_):x=.bl c->Q c H1->tB_R Q x H1
def tB (t:TE):TT:=fun σ H Q=>t σ H fun x H1=>tB_R Q x H1
theorem Zbm (h:PC X z a b t)(h1:GS z b=false:=by first | exact ZdG _ (by decide) (by decide) | rfl):PE X (.Compare a [z] [b] pos) t:=fun pins s σ H Q I B=>wpAny_Compare1 (h pins s σ H Q I B) h1
theorem UI (h:PC X z a b t)(h1:GS z b=false:=by first | exact ZdG _ (by decide) (by decide) | rfl):PT X (.Compare a [z] [b] pos) (tB t):=by
 intro pins s σ H Q I Y
 refine Ry (Zw (h pins s σ H _ I Y) fun v s1 h1=>Zw h1 fun u s2 h2=>Zw h2 fun c Z B=>?_) h1
 obtain ⟨x,H1,G,J,W⟩:=B
 obtain ⟨d,rfl,q⟩:=W
 cases J
 exact Ga ⟨H1,G,q⟩
theorem Xm (h:PE X e t)(G:∀ z,isTrue e X.env z=(do let v <- z;TW e.pos;JL [v] (truthy v)):=by intro _;rfl):PT X e (tB t):=by
 intro pins s σ H Q I Z
 refine isTrue_plain (Zw (h pins s σ H _ I Z) fun v s1 B=>?_) (G _)
 obtain ⟨x,H1,J,W,Y⟩:=B
 obtain ⟨d,rfl,q⟩:=Y
 cases W
 exact Ga ⟨H1,J,q⟩
variable {tA tB':TT}{rest:List Expr}
def tAnd (t u:TT):TT:=fun σ H Q=>t σ H fun c H1=>if c=true then u σ H1 Q else Q false H1
def tOr (t u:TT):TT:=fun σ H Q=>t σ H fun c H1=>if c=true then Q true H1 else u σ H1 Q
def tNot (t:TT):TT:=fun σ H Q=>t σ H fun c H1=>Q (!c) H1
theorem ZbQ (z:PT X a tA):PW X (.BoolOp .And [a] pos) tA:=by
 intro B pins s σ H Q I h
 refine isTrue_and (Zw (z pins s σ H Q I h) fun c s1 e=>?_)
 cases c with
 | true=>exact isTrue_and_nil e
 | false=>exact e
theorem Wu (z:PT X a tA):PW X (.BoolOp .Or [a] pos) tA:=by
 intro B pins s σ H Q I h
 refine isTrue_or (Zw (z pins s σ H Q I h) fun c s1 e=>?_)
 cases c with
 | false=>exact isTrue_or_nil e
 | true=>exact e
theorem ZdR (Y:PT X a tA)(J:PW X (.BoolOp .And (b::rest) pos) tB'):PW X (.BoolOp .And (a::b::rest) pos) (tAnd tA tB'):=by
 intro G pins s σ H Q I h
 refine isTrue_and (Zw (Y pins s σ H _ I h) fun c s1 W=>?_)
 obtain ⟨H1,z,B⟩:=W
 cases c with
 | true=>exact J G pins s1 σ H1 Q z B
 | false=>exact ⟨H1,z,B⟩
theorem Wt (Y:PT X a tA)(J:PW X (.BoolOp .Or (b::rest) pos) tB'):PW X (.BoolOp .Or (a::b::rest) pos) (tOr tA tB'):=by
 intro G pins s σ H Q I h
 refine isTrue_or (Zw (Y pins s σ H _ I h) fun c s1 W=>?_)
 obtain ⟨H1,z,B⟩:=W
 cases c with
 | true=>exact ⟨H1,z,B⟩
 | false=>exact J G pins s1 σ H1 Q z B
theorem Ws (z:PT X a tA):PT X (.UnaryOp .Not a pos) (tNot tA):=by
 intro pins s σ H Q I h
 exact isTrue_not (z pins s σ H (fun c H1=>Q (!c) H1) I h)
inductive Zfe (tb:TE)(σ:St)(Q:VK)(x:V)(H1:Hp):Prop
 | mk (c:_):x=.bl c->(if c=true then tb σ H1 Q else Q (.bl false) H1)->Zfe tb σ Q x H1
def ZnU (ta tb:TE):TE:=fun σ H Q=>ta σ H fun x H1=>Zfe tb σ Q x H1
inductive Zfg (Q:VK)(x:V)(H1:Hp):Prop
 | mk (c:_):x=.bl c->Q (.bl (!c)) H1->Zfg Q x H1
def Zob (ta:TE):TE:=fun σ H Q=>ta σ H fun x H1=>Zfg Q x H1
theorem XW {op}(h:PE X a t):PE X (.BoolOp op [a] pos) t:=fun pins s σ H Q I z=>BoolOp_one (h pins s σ H Q I z)
theorem Xl (Y:PE X a ta)(G:PE X (.BoolOp .And (b::rest) pos) tb):PE X (.BoolOp .And (a::b::rest) pos) (ZnU ta tb):=by
 intro pins s σ H Q I h
 refine BoolOp_and (Zw (Y pins s σ H _ I h) fun v s1 J=>?_)
 obtain ⟨x,H1,B,W,z⟩:=J
 obtain ⟨c,rfl,z⟩:=z
 cases W
 refine Ga ?_
 cases c with
 | true=>exact G pins s1 σ H1 Q B z
 | false=>exact ⟨.bl false,H1,B,rfl,z⟩
theorem ZdO (W:PE X a ta):PE X (.UnaryOp .Not a pos) (Zob ta):=by
 intro pins s σ H Q I h
 refine UnaryOp_ (Zw (W pins s σ H _ I h) fun v s1 B=>?_)
 obtain ⟨x,H1,G,J,z⟩:=B
 obtain ⟨c,rfl,z⟩:=z
 cases J
 exact not_of (Ga ⟨.bl (!c),H1,G,rfl,z⟩)
def tIf (t:TT)(ta tb:TE):TE:=fun σ H Q=>t σ H fun c H1=>if c=true then ta σ H1 Q else tb σ H1 Q
theorem XF (W:PT X c tA)(Y:PE X a ta)(G:PE X b tb):PE X (.IfExp c a b pos) (tIf tA ta tb):=by
 intro pins s σ H Q I h
 refine wpAny_IfExp (Zw (W pins s σ H _ I h) fun d s1 J=>?_)
 obtain ⟨H1,z,B⟩:=J
 cases d with
 | true=>exact Y pins s1 σ H1 Q z B
 | false=>exact G pins s1 σ H1 Q z B
end
def SqL (K:Qa)(H:Hp)(a:Addr)(xs:List V):Prop :=
 Rd H a (.lst xs) \/
  ∃ (o:Obj) (its:Array Qc) (n:Nat),K.lookup a=some o/\o.cls=.type "list"/\o.dict=none/\o.data=.seq its n/\its.size<=Qg/\Vals xs its.toList
def SqT (K:Qa)(H:Hp)(a:Addr)(xs:List V):Prop :=
 Rd H a (.tup xs) \/
  ∃ (o:Obj) (its:Array Qc) (n:Nat),K.lookup a=some o/\o.cls=.type "tuple"/\o.data=.seq its n/\its.size<=Qg/\Vals xs its.toList
def Zft:Qc->Option V
 | .none=>some .non
 | .bool b=>some (.bl b)
 | .int i _=>some (.int i)
 | .str x _=>some (.str x)
 | .bytes b _=>some (.byt b)
 | .float b _=>some (.flt b)
 | .ref a=>some (.ref a)
 | .type n=>some (.ty n)
 | _=>none
theorem RelV.abs (r:RelV x u):Zft u=some x:=by
 cases x with
 | non=>cases r;rfl
 | bl _=>cases r;rfl
 | int _=>obtain ⟨t,rfl⟩:=r;rfl
 | str _=>obtain ⟨t,rfl⟩:=r;rfl
 | byt _=>obtain ⟨t,rfl⟩:=r;rfl
 | flt _=>obtain ⟨t,rfl⟩:=r;rfl
 | ref _=>cases r;rfl
 | ty _=>cases r;rfl
theorem RelV.inj (r:RelV x u)(q:RelV y u):x=y:=Qu (r.abs.symm.trans q.abs)
theorem Vals.inj:∀{xs ys:List V}{us:List Qc},Vals xs us->Vals ys us->xs=ys
 | _,_,_,.nil,.nil=>rfl
 | _,_,_,.cons r t,.cons r' t'=>by rw [r.inj r',Vals.inj t t']
section
variable {X:Cx}{pins:List (Addr×Obj)}{σ:St}{H:Hp}{s:Qe}{a:Addr}{xs ys:List V}
theorem SqL.of {K:Qa}(h:H a=some (.lst xs)):SqL K H a xs:=.inl (.inl h)
theorem SqT.of {K:Qa}(h:H a=some (.tup xs)):SqT K H a xs:=.inl (.inl h)
theorem Inv.list (I:Inv X pins σ H s)(h:SqL X.K H a xs):∃ B:List Qc,Vals xs B/\PlainL s.heap a B.toArray/\xs.length<=sizeLine:=by
 rcases h with h | ⟨o,B,n,J,G,W,Y,Z,r⟩
 ·obtain ⟨z,B,n,r,e⟩:=h.ok I.hok
  exact ⟨B,r,⟨_,n,e,rfl,rfl,rfl⟩,z⟩
 ·refine ⟨B.toList,r,⟨o,n,I.kIn a o J,G,W,by simpa using Y⟩,?_⟩
  have e:=r.length
  simp only [GA] at e
  omega
theorem Inv.tuple (I:Inv X pins σ H s)(h:SqT X.K H a xs):∃ B:List Qc,Vals xs B/\OJ s.heap a B.toArray/\xs.length<=sizeLine:=by
 rcases h with h | ⟨o,B,n,J,G,W,Y,r⟩
 ·obtain ⟨z,B,r,p⟩:=h.ok I.hok
  exact ⟨B,r,p,z⟩
 ·refine ⟨B.toList,r,⟨o,I.kIn a o J,G,n,by simpa using W⟩,?_⟩
  have e:=r.length
  simp only [GA] at e
  omega
theorem Inv.list_inj (I:Inv X pins σ H s)(h:SqL X.K H a xs)(h':SqL X.K H a ys):xs=ys:=by
 obtain ⟨z,r,⟨o,n,e,_,_,d⟩,_⟩:=I.list h
 obtain ⟨its',G,⟨o',J,B,_,_,d'⟩,_⟩:=I.list h'
 rw [e] at B;cases B
 rw [d] at d'
 injection d' with d1 _
 have:z=its':=by simpa using congrArg Array.toList d1
 subst this
 exact r.inj G
theorem Inv.tuple_inj (I:Inv X pins σ H s)(h:SqT X.K H a xs)(h':SqT X.K H a ys):xs=ys:=by
 obtain ⟨z,r,⟨o,e,_,n,d⟩,_⟩:=I.tuple h
 obtain ⟨its',G,⟨o',B,_,J,d'⟩,_⟩:=I.tuple h'
 rw [e] at B;cases B
 rw [d] at d'
 injection d' with d1 _
 have:z=its':=by simpa using congrArg Array.toList d1
 subst this
 exact r.inj G
end
abbrev Cx.wish (X:Cx)(E:Qc->Qe->Prop):Cx:={ X with xe:=E }
abbrev Cx.nox (X:Cx):Cx:=X.wish fun _ _=>False
theorem Cx.Ok.wish {X:Cx}(ok:X.Ok)(E:Qc->Qe->Prop):(X.wish E).Ok :=
 ⟨ok.mod,ok.kind,ok.glob,ok.blt,ok.above,ok.inj,ok.has,ok.cab,ok.hd,ok.frames,ok.stk,ok.exf,ok.bs,ok.bsz,ok.noex,ok.exfs,ok.funs,ok.frf⟩
theorem Cx.Ok.unwish {X:Cx}{E:Qc->Qe->Prop}(ok:(X.wish E).Ok):X.Ok :=
 ⟨ok.mod,ok.kind,ok.glob,ok.blt,ok.above,ok.inj,ok.has,ok.cab,ok.hd,ok.frames,ok.stk,ok.exf,ok.bs,ok.bsz,ok.noex,ok.exfs,ok.funs,ok.frf⟩
section
variable {X:Cx}{pins:List (Addr×Obj)}{σ:St}{H:Hp}{s:Qe}{E:Qc->Qe->Prop}
theorem Inv.wish (I:Inv X pins σ H s)(E:Qc->Qe->Prop):Inv (X.wish E) pins σ H s:=⟨I.ok.wish E,I.os,I.bare,I.base,I.loc,I.cell,I.free,I.freeC,I.pin,I.hok,I.len⟩
theorem Inv.unwish (I:Inv (X.wish E) pins σ H s):Inv X pins σ H s:=⟨I.ok.unwish,I.os,I.bare,I.base,I.loc,I.cell,I.free,I.freeC,I.pin,I.hok,I.len⟩
theorem SP.unwish (h:SP (X.wish E) pins D f s'):SP X pins D f s':=by
 cases f with
 | next=>obtain ⟨z,H',I,q⟩:=h;exact ⟨z,H',I.unwish,q⟩
 | brk=>obtain ⟨z,H',I,q⟩:=h;exact ⟨z,H',I.unwish,q⟩
 | cont=>obtain ⟨z,H',I,q⟩:=h;exact ⟨z,H',I.unwish,q⟩
 | ret u=>obtain ⟨v,z,H',I,r,q⟩:=h;exact ⟨v,z,H',I.unwish,r,q⟩
theorem PSs.nox {st:List Stmt}{t:TS}(h:PSs X.nox st t):PSs X st t:=fun pins s σ H D I B =>
 GE (h pins s σ H D (I.wish _) B) (fun _ _ q=>q.unwish) fun _ _ z=>Gx z
end
section
variable {X:Cx}{st:Stmt}{rest:List Stmt}{t u:TS}{e:Expr}{te:TE}{pos:Pos}
def ZnY:TS:=fun D σ H=>D.nx σ H
def YX (t u:TS):TS:=fun D σ H=>t { D with nx:=u D } σ H
theorem ZS:PSs X [] ZnY:=fun _ _ σ H _ I h=>PQ ⟨σ,H,I,h⟩
theorem Zf (h1:PS X st t)(h2:PSs X rest u):PSs X (st::rest) (YX t u):=by
 intro pins s σ H D I h
 refine Sw (Zw (h1 pins s σ H { D with nx:=u D } I h) fun f s1 q=>?_)
 cases f with
 | next =>
  obtain ⟨z,H',B,q⟩:=q
  exact h2 pins s1 z H' D B q
 | ret v=>exact q
 | brk=>exact q
 | cont=>exact q
theorem Zg (h1:PS X st t):PSs X [st] t:=by
 intro pins s σ H D I h
 refine Sw (Zw (h1 pins s σ H D I h) fun f s1 q=>?_)
 cases f with
 | next=>exact PQ q
 | ret v=>exact q
 | brk=>exact q
 | cont=>exact q
theorem Inv.quiet (I:Inv X pins σ H s):interactive X.env=false:=by simp [interactive,I.ok.kind]
def ZnX (te:TE):TS:=fun D σ H=>te σ H fun _ H1=>D.nx σ H1
theorem Yy (z:PE X e te)(G:Sx e none pos.line X.env=pure false:=by rfl):PS X (.Expr e pos) (ZnX te):=by
 intro pins s σ H D I h
 exact wpAny_Expr_any (Zw (z pins s σ H _ I h) fun v s1 ⟨x,H1,B,W,J⟩=>⟨σ,H1,B,J⟩) I.quiet G
def tRet (te:TE):TS:=fun D σ H=>te σ H D.rt
theorem Zl (z:PE X e te):PS X (.Return (some e) pos) (tRet te):=by
 intro pins s σ H D I h
 exact wpAny_Return_some (Zw (z pins s σ H _ I h) fun v s1 ⟨x,H1,B,G,J⟩=>⟨x,σ,H1,B,G,J⟩)
def tIfS (c:TT)(t u:TS):TS:=fun D σ H=>c σ H fun b H1=>if b=true then t D σ H1 else u D σ H1
theorem ZZ (W:PT X c tc)(Y:PSs X a t)(G:PSs X b u):PS X (.If c a b pos) (tIfS tc t u):=by
 intro pins s σ H D I h
 refine wpAny_If (Zw (W pins s σ H _ I h) fun d s1 J=>?_)
 obtain ⟨H1,z,B⟩:=J
 cases d with
 | true=>exact Y pins s1 σ H1 D z B
 | false=>exact G pins s1 σ H1 D z B
end
abbrev TG:=V->St->Hp->(St->Hp->Prop)->Prop
abbrev TGs:=List V->St->Hp->(St->Hp->Prop)->Prop
def PG (X:Cx)(target:Expr)(t:TG):Prop :=
 ∀ (pins:List (Addr×Obj)) (s:Qe) (σ:St) (H:Hp) (v:V) (u:Qc) (Q:St->Hp->Prop),Inv X pins σ H s->RelV v u->t v σ H Q ->
  Qq (Qw X.prog X.w) X.A (SS target X.env u) (fun _ s'=>∃ σ' H',Inv X pins σ' H' s'/\Q σ' H') X.xe s
def PGs (X:Cx)(ts:List Expr)(t:TGs):Prop :=
 ∀ (pins:List (Addr×Obj)) (s:Qe) (σ:St) (H:Hp) (vs:List V) (us:List Qc) (Q:St->Hp->Prop),Inv X pins σ H s->Vals vs us->t vs σ H Q ->
  Qq (Qw X.prog X.w) X.A (Px ((Tk ts X.env).map (·.2)) us) (fun _ s'=>∃ σ' H',Inv X pins σ' H' s'/\Q σ' H') X.xe s
abbrev Zih:=V->V->V->Hp->(Hp->Prop)->Prop
def PSet (X:Cx)(t:Zih):Prop :=
 ∀ (pins:List (Addr×Obj)) (s:Qe) (σ:St) (H:Hp) (o i v:V) (ov iv u:Qc) (Q:Hp->Prop),Inv X pins σ H s->RelV o ov->RelV i iv->RelV v u->t o i v H Q ->
  Qq (Qw X.prog X.w) X.A (ON ov iv u) (fun _ s'=>∃ H',Inv X pins σ H' s'/\Q H') X.xe s
abbrev TIp:=V->V->Hp->VK->Prop
def PIp (X:Cx)(op:Operator)(t:TIp):Prop :=
 ∀ (pins:List (Addr×Obj)) (s:Qe) (σ:St) (H:Hp) (x y:V) (v u:Qc) (Q:VK),Inv X pins σ H s->RelV x v->RelV y u->t x y H Q ->
  Qq (Qw X.prog X.w) X.A (inplaceOp op v u) (EP X pins σ Q) X.xe s
section
variable {X:Cx}{pos:Pos}
def UY (i:Nat):TG:=fun v σ H Q=>Q (σ.set i (some v)) H
theorem ZW {i:Nat}(B:X.N.Nodup)(hi:X.N[i]?=some x)(G:Loc X.env.scope x)(z:X.fn x=true\/X.env.scope.names.lookup x=some .local:=by first | exact .inl rfl | exact .inr rfl | assumption):PG X (.Name x pos) (UY i):=by
 intro pins s σ H v u Q I r h
 exact OO (XG I B hi G r (fun s' J=>⟨_,H,J,h⟩) z)
def gNil:TGs:=fun vs σ H Q=>vs=[]/\Q σ H
inductive ZeF (t:TG)(u:TGs)(vs:List V)(σ:St)(H:Hp)(Q:St->Hp->Prop):Prop
 | mk (v r:_):vs=v::r->(t v σ H fun σ' H'=>u r σ' H' Q)->ZeF t u vs σ H Q
def ZfA (t:TG)(u:TGs):TGs:=fun vs σ H Q=>ZeF t u vs σ H Q
theorem Wf:PGs X [] gNil:=by
 intro pins s σ H vs us Q I r h
 obtain ⟨e,h⟩:=h
 subst e
 cases r
 exact TX ⟨σ,H,I,h⟩
theorem Yp (h1:PG X e t)(h2:PGs X es u)(J:(Tk (e::es) X.env).map (·.2)=SS e X.env::(Tk es X.env).map (·.2):=by rfl):PGs X (e::es) (ZfA t u):=by
 intro pins s σ H vs us Q I r h
 obtain ⟨v,Y,e1,h⟩:=h
 subst e1
 cases r with
 | cons r rr =>
  rw [J]
  refine GF (Zw (h1 pins s σ H _ _ _ I r h) fun _ s1 B=>?_)
  obtain ⟨z,H1,G,W⟩:=B
  exact h2 pins s1 z H1 _ _ Q G rr W
inductive ZgL (K:Qa)(n:Nat)(t:TGs)(v:V)(σ:St)(H:Hp)(Q:St->Hp->Prop):Prop
 | mk (a xs:_):v=.ref a->SqT K H a xs->xs.length=n->t xs σ H Q->ZgL K n t v σ H Q
def gTup (K:Qa)(n:Nat)(t:TGs):TG:=fun v σ H Q=>ZgL K n t v σ H Q
theorem WO {k:Nat}{n:Nat}(Z:X.calm=true)(h:PGs X es t)(hn:(Tk es X.env).length=n:=by rfl)(z:(Tk es X.env).findIdx? (·.1)=none:=by rfl):PG X (.Tuple es k pos) (gTup X.K n t):=by
 intro pins s σ H v u Q I r B
 obtain ⟨a,xs,e1,hq,Y,B⟩:=B
 subst e1
 cases r
 obtain ⟨J,G,ht,hz⟩:=I.tuple hq
 refine assign_Tuple_tuple (I.ok.hd Z) ht (by simp [hn,<- Y,G.length]) z fun h' W=>?_
 have I1:Inv X pins σ H { s with heap:=h' }:=I.kept (t':=s.toks) fun b o e=>W b o (Qt (Qi e)) e
 exact h pins _ σ H xs _ Q I1 (by simpa using G) B
def gSub (to ti:TE)(t:Zih):TG:=fun v σ H Q=>to σ H fun o H1=>ti σ H1 fun i H2=>t o i v H2 fun H3=>Q σ H3
theorem Zbn (Z:PE X o to)(hi:PE X i J)(hs:PSet X t)(ha:∀ v,SS (.Subscript o i pos) X.env v=(do
  let z <- JL [v] (eval o X.env)
  let B <- JL [v,z] (eval i X.env)
  TW pos
  JL [v,z,B] (ON z B v)
  release [v,z,B] []):=by intro _;rfl):PG X (.Subscript o i pos) (gSub to J t):=by
 intro pins s σ H v u Q I r h
 rw [ha]
 refine Qb (QS (Zw (Z pins s σ H _ I h) fun z s1 G=>?_))
 obtain ⟨x,H1,I1,r1,q1⟩:=G
 refine Qb (QS (Zw (hi pins s1 σ H1 _ I1 q1) fun B s2 G=>?_))
 obtain ⟨y,H2,I2,Y,q2⟩:=G
 refine Qb (GT (Qb (QS (Zw (hs pins s2 σ H2 x y v z B u _ I2 r1 Y r q2) fun _ s3 G=>?_))))
 obtain ⟨H3,I3,W⟩:=G
 exact wpAny_release ⟨σ,H3,I3,W⟩
def Zgq (te:TE)(g:TG):TS:=fun D σ H=>te σ H fun x H1=>g x σ H1 D.nx
theorem XX (G:PE X e te)(z:PG X tg g)(Y:Oe [tg] e pos.line X.env=pure false:=by rfl)(hw:Of [tg] e X.env=pure none:=by rfl)(h1:(Tk [tg] X.env).map (·.2)=[SS tg X.env]:=by rfl):PS X (.Assign [tg] e pos) (Zgq te g):=by
 intro pins s σ H D I h
 refine wpAny_Assign_stores (Zw (G pins s σ H _ I h) fun v s1 B=>?_) Y hw
 obtain ⟨x,H1,J,W,Z⟩:=B
 rw [h1]
 exact Zw (z pins s1 σ H1 x v _ J W Z) fun _ s2 q=>q
theorem Zs {i:Nat}(B:X.N.Nodup)(hi:X.N[i]?=some x)(G:Loc X.env.scope x)(W:PE X e te)(hs:Sx e (some (.Name x pos')) pos.line X.env=pure false:=by rfl)(z:X.fn x=true\/X.env.scope.names.lookup x=some .local:=by first | exact .inl rfl | exact .inr rfl | assumption):
 PS X (.Assign [.Name x pos'] e pos) (Zgq te (UY i)):=by
 intro pins s σ H D I h
 refine wpAny_Assign_Name (Zw (W pins s σ H _ I h) fun v s1 J=>?_) hs
 obtain ⟨y,H1,Z,r1,q1⟩:=J
 exact XG Z B hi G r1 (fun s2 Y=>⟨_,H1,Y,q1⟩) z
inductive ZhT (i j:Nat)(D:YA)(σ:St)(vs:List V)(H1:Hp):Prop
 | mk (v w:_):vs=[v,w]->D.nx ((σ.set i (some v)).set j (some w)) H1->ZhT i j D σ vs H1
def tPar (i j:Nat)(ta:TA):TS:=fun D σ H=>ta σ H fun vs H1=>ZhT i j D σ vs H1
theorem ZdP {i j:Nat}{kt k2 pt2}(hc:X.calm=true)(hN:X.N.Nodup)(hi:X.N[i]?=some x)(hj:X.N[j]?=some y)(J:i≠j)(hx:X.env.scope.names.lookup x=some .local)(hy:X.env.scope.names.lookup y=some .local)(ha:PA X [a,b] ta)(hw:Of [.Tuple [.Name x px,.Name y W] kt pt] (.Tuple [a,b] k2 pt2) X.env=pure (some [x,y]))(hs:Oe [.Tuple [.Name x px,.Name y W] kt pt] (.Tuple [a,b] k2 pt2) pos.line X.env=pure false:=by rfl):
 PS X (.Assign [.Tuple [.Name x px,.Name y W] kt pt] (.Tuple [a,b] k2 pt2) pos) (tPar i j ta):=by
 intro pins s σ H D I h
 rw [NP]
 refine Qb (GT ?_)
 rw [hs]
 refine Qb (Qh ?_)
 rw [if_neg (by decide)]
 refine Qb (Tuple_ (Zw (ha _ pins s σ H _ I h) fun us s1 zz=>?_))
 obtain ⟨vs,H1,I1,r1,G⟩:=zz
 obtain ⟨v,w,e1,G⟩:=G
 subst e1
 obtain ⟨B,z,rfl,rv,Z⟩:∃ B z,us=[B,z]/\RelV v B/\RelV w z:=by
  cases r1 with
  | cons p q =>
   cases q with
   | cons p' q' =>
    cases q'
    exact ⟨_,_,rfl,p,p'⟩
 refine Gd ?_ (by show 2<=Qg;decide)
 have I2:Inv X pins σ H1 { s1 with heap:=s1.heap.push { cls:=.type "tuple",data:=.seq [B,z].toArray } }:=I1.kept (t':=s1.toks) fun b o e=>Qd _ e
 rw [hw]
 refine Qb (Qh ?_)
 show Qq (Qw X.prog X.w) X.A (do rule "assign.swapped-stores";let items <- unpackItems (.ref s1.heap.objs.size) 2 none;Px [fun v=>JX X.env y v,fun v=>JX X.env x v] items.reverse;pure Nt) _ _ _
 refine Qb (Jh (Qb (OP (items:=#[B,z]) (I.ok.hd hc) (Pp s1.heap _) fun h' Y=>?_)))
 have I3:=I2.kept (h':=h') (t':=s1.toks) fun b o e=>Y b o (Qt (Qi e)) e
 show Qq _ _ (Px [fun v=>JX X.env y v,fun v=>JX X.env x v] [z,B] >>= fun _=>pure Nt) _ _ _
 refine Qb (GF (JY (XG I3 hN hj (.inl hy) Z (fun s2 I4=>?_) (.inr hy))))
 refine GF (JY (XG I4 hN hi (.inl hx) rv (fun s3 I5=>TX (Qh ?_)) (.inr hx)))
 rw [Sl _ _ (JK J)] at I5
 exact ⟨_,H1,I5,G⟩
inductive ZhO (i:Nat)(te:TE)(ti:TIp)(D:YA)(σ:St)(H:Hp):Prop
 | mk (x:_):σ[i]?=some (some x)->(te σ H fun y H1=>ti x y H1 fun z H2=>D.nx (σ.set i (some z)) H2)->ZhO i te ti D σ H
def tAug (i:Nat)(te:TE)(ti:TIp):TS:=fun D σ H=>ZhO i te ti D σ H
theorem ZmN {i:Nat}(hN:X.N.Nodup)(hi:X.N[i]?=some x)(W:Loc X.env.scope x)(he:PE X e te)(ho:PIp X Z ti)(hf:X.fn x=true\/X.env.scope.names.lookup x=some .local:=by first | exact .inl rfl | exact .inr rfl | assumption):
 PS X (.AugAssign (.Name x pos') Z e pos) (tAug i te ti):=by
 intro pins s σ H D I h
 obtain ⟨v,e1,h⟩:=h
 obtain ⟨m,hn,hl⟩:=I.loc
 have vis:Vis X.env.scope x:=by rcases W with k | k;exact .inl k;exact .inr (.inl k)
 obtain ⟨u,r,l⟩:=hl i x v hi e1 vis
 refine wpAny_AugAssign_Name ?_
 have go:Qq (Qw X.prog X.w) X.A (eval e X.env) (fun w J=>Qq (Qw X.prog X.w) X.A (inplaceOp Z u w) (fun r G=>Qq (Qw X.prog X.w) X.A (storeName X.env x r) (fun _=>SP X pins D .next) X.xe G) X.xe J) X.xe s:=by
  refine Zw (he pins s σ H _ I h) fun w s1 Y=>?_
  obtain ⟨y,H1,I1,r1,q1⟩:=Y
  refine Zw (ho pins s1 σ H1 v y u w _ I1 r r1 q1) fun z s2 Y=>?_
  obtain ⟨zv,H2,I2,r2,q2⟩:=Y
  exact XG I2 hN hi W r2 (fun s3 I3=>⟨_,H2,I3,q2⟩) hf
 rcases l with ⟨hk,hm⟩ | ⟨hk,c,hc,B⟩
 ·exact PH I.ok.kind hk hn hm go
 ·rcases hk with hk | hk
  ·exact RW I.ok.kind hk hc B go
  ·rcases W with k | k
   ·have:X.env.scope.names.lookup x=some .free:=hk
    rw [k] at this;cases this
   ·have:X.env.scope.names.lookup x=some .free:=hk
    rw [k] at this;cases this
def ipI (f:Int->Int->Int):TIp:=fun x y H Q=>∃ i j,x=.int i/\y=.int j/\Q (.int (f i j)) H
theorem Zml:PIp X .Add (ipI fun i j=>i+j):=by
 intro pins s σ H x y v u Q I B G h
 obtain ⟨i,j,e1,z,q⟩:=h
 subst e1;subst z
 obtain ⟨t,rfl⟩:=B
 obtain ⟨t',rfl⟩:=G
 exact iadd_int ⟨.int _,H,I.tok _,⟨_,rfl⟩,q⟩
end
section
variable {X:Cx}{pos:Pos}
def Znf (c:TT)(tb:TS):TS:=fun D σ H=>∃ W:Nat->St->Hp->Prop,(∃ m,W m σ H)/\∀ m σ H,W m σ H ->
 c σ H fun b H1=>if b=true then ∃ N:St->Hp->Prop,(∀ σ' H',N σ' H'->∃ m',m' < m/\W m' σ' H')/\tb { D with nx:=N,ct:=N,bk:=D.nx } σ H1 else D.nx σ H1
theorem Vk (hp:PassesOwn (Qw X.prog X.w) X.A X.env X.xe)(hc:PT X c tc)(hb:PSs X body tb):PS X (.While c body [] pos) (Znf tc tb):=by
 intro pins s σ H D I h
 obtain ⟨W,⟨m0,w0⟩,G⟩:=h
 refine wpAny_While (codeAny_whileLoop (fun n s'=>∃ Y H',Inv X pins Y H' s'/\W n Y H') ?_ m0 ⟨σ,H,I,w0⟩)
 rintro n s1 ⟨B,H1,I1,w1⟩
 refine GJ hp (Zw (hc pins s1 B H1 _ I1 (G n B H1 w1)) fun b s2 zz=>?_)
 obtain ⟨H2,I2,Z⟩:=zz
 cases b with
 | true =>
  obtain ⟨N,hN,Z⟩:=Z
  rw [if_pos rfl]
  refine GJ hp (Zw (hb pins s2 B H2 _ I2 Z) fun f s3 q3=>?_)
  cases f with
  | next =>
   obtain ⟨z,J,I3,n3⟩:=q3
   obtain ⟨m',hm,w3⟩:=hN z J n3
   exact ⟨m',hm,z,J,I3,w3⟩
  | cont =>
   obtain ⟨z,J,I3,n3⟩:=q3
   obtain ⟨m',hm,w3⟩:=hN z J n3
   exact ⟨m',hm,z,J,I3,w3⟩
  | brk=>exact q3
  | ret v=>exact q3
 | false =>
  rw [if_neg Qp]
  exact PQ ⟨B,H2,I2,Z⟩
end
structure It where
 go:Nat->Hp->Prop
 yld:Nat->Hp->V->Hp->Prop
 stop:Nat->Hp->Prop
def Xz (X:Cx)(pins:List (Addr×Obj))(H:Hp)(b:Addr):Prop :=
 H b=none/\b≠X.env.locals/\b ∉ X.fs/\(b∈X.ex\/X.s₀.heap.objs.size<=b)/\(∀ x c,X.env.cells.lookup x=some c->c≠b)/\∀ p∈X.pn++pins,p.1≠b
theorem Inv.fpOk (I:Inv X pins σ H s)(B:s.heap.objs.size<=b)(G:H' b=none):Xz X pins H' b:=by
 refine ⟨G,GC (QB I.lt B),I.nofs B,.inr (Qo I.sz B),fun x c e z=>?_,fun p hp z=>?_⟩
 ·obtain ⟨v,q⟩:=I.cell x c e
  exact absurd (QB q.lt (by rw [z];exact B)) (GR _)
 ·exact absurd (QB (Qi (I.pin p hp).1) (by rw [z];exact B)) (GR _)
structure UR (P:Qk)(w:Qs)(K:Qa)(tg:Expr)(J:It)(fp:List Addr)(it:Addr)(tn:Nat->Heap->Prop):Prop where
 mem:it∈fp
 obj:∀ i h,tn i h->∀ b∈fp,∃ o,h.get? b=some o/\∀ v,o.data≠.cell v
 keep:∀ i h h',tn i h->(∀ b∈fp,∀ o,h.get? b=some o->h'.get? b=some o)->tn i h'
 item:∀ (X:Cx),X.prog=P->X.w=w->X.K=K->X.calm=true->∀ (i:Nat) (pins:List (Addr×Obj)) (s:Qe) (σ:St) (H:Hp) (E:Qc->Qe->Prop),Inv X pins σ H s->(∀ b∈fp,Xz X pins H b)->tn i s.heap->J.go i H ->
  Qq (Qw P w) X.A (Sm (.ref it)) (fun r s1=>∃ u,r=some u /\
   Qq (Qw P w) X.A (PR tg (.ref it) u) (fun _ s2=>∃ x H',Inv X pins σ H' s2/\RelV x u/\J.yld i H x H'/\tn (i+1) s2.heap/\∀ b∈fp,H' b=none) E s1) E s
 done:∀ (X:Cx),X.prog=P->X.w=w->X.K=K->X.calm=true->∀ (i:Nat) (pins:List (Addr×Obj)) (s:Qe) (σ:St) (H:Hp) (E:Qc->Qe->Prop),Inv X pins σ H s->(∀ b∈fp,Xz X pins H b)->tn i s.heap->J.stop i H ->
  Qq (Qw P w) X.A (Sm (.ref it)) (fun r s1=>r=none/\Inv X pins σ H s1) E s
 self:∀ (A:QD) (i:Nat) (s:Qe) (Q:Qc->Qe->Prop) (E:Qc->Qe->Prop),tn i s.heap->Q (.ref it) s->Qq (Qw P w) A (pyIter (.ref it)) Q E s
abbrev TI:=St->Hp->(It->Hp->Prop)->Prop
def PIE (X:Cx)(pins:List (Addr×Obj))(σ:St)(tg:Expr)(R:It->Hp->Prop)(itv:Qc)(s2:Qe):Prop :=
 ∃ (it:Addr) (fp:List Addr) (tn:Nat->Heap->Prop) (J:It) (H':Hp),itv=.ref it/\Inv X pins σ H' s2/\UR X.prog X.w X.K tg J fp it tn/\tn 0 s2.heap/\(∀ b∈fp,Xz X pins H' b)/\R J H'
def PI (X:Cx)(tg iter:Expr)(wi:TI):Prop :=
 ∀ (pins:List (Addr×Obj)) (s:Qe) (σ:St) (H:Hp) (R:It->Hp->Prop),Inv X pins σ H s->wi σ H R ->
  Qq (Qw X.prog X.w) X.A (eval iter X.env) (fun v s1=>Qq (Qw X.prog X.w) X.A (pyIter v) (PIE X pins σ tg R) X.xe s1) X.xe s
theorem ZfC {s:Qe}(G:s.heap.get? B=some o)(I:o.cls=.type n)(J:o.data=.fields vs)(W:["enumerate","zip","dict_itemiterator","dict_reverseitemiterator","odict_iterator","itertools.zip_longest","itertools.pairwise"].contains n=false)(z:Q () s):Qq M A (PR tg (.ref B) u) Q E s:=by
 unfold PR
 cases tg <;> first
   | exact Qh z
   | (cases u<;>first
       | exact Qh z
       | (refine Qb (wpAny_load G ?_)
          rw [I,J]
          show Qq M A (if (["enumerate","zip","dict_itemiterator","dict_reverseitemiterator","odict_iterator","itertools.zip_longest","itertools.pairwise"].contains n&&vs[0]? == some (Jv _))=true then _ else _) Q E s
          rw [if_neg (by intro h;rw [W,Bool.false_and] at h;cases h)]
          exact Qh z))
def Itl (K:Qa)(a:Addr):It :=
 ⟨fun i H=>∃ xs x,SqL K H a xs/\xs[i]?=some x,fun i H x H'=>H'=H/\∀ xs,SqL K H a xs->xs[i]?=some x,fun i H=>∃ xs,SqL K H a xs/\xs.length<=i⟩
def Itt (K:Qa)(a:Addr):It :=
 ⟨fun i H=>∃ xs x,SqT K H a xs/\xs[i]?=some x,fun i H x H'=>H'=H/\∀ xs,SqT K H a xs->xs[i]?=some x,fun i H=>∃ xs,SqT K H a xs/\xs.length<=i⟩
def Itr (lo:Int)(n:Nat):It:=⟨fun i _=>i < n,fun i H x H'=>H'=H/\x=.int (lo+i),fun i _=>n<=i⟩
theorem Zia {P:Qk}{w:Qs}{K:Qa}{tg:Expr}(a G:Addr):UR P w K tg (Itl K a) [G] G (fun i h=>h.IsListIter G a i) where
 mem:=by simp
 obj:=fun i h st b B=>by
  have e:b=G:=by simpa using B
  subst e
  obtain ⟨o,e,c,d⟩:=st
  exact ⟨o,e,fun v z=>by rw [d] at z;cases z⟩
 keep:=fun i h h' st k=>st.at fun o e=>k G (by simp) o e
 item:=by
  intro X hP hw hK hc i pins s σ H E I W st hg
  subst hP hw hK
  obtain ⟨xs,x,Y,hx⟩:=hg
  obtain ⟨its,rv,p,hz⟩:=I.list Y
  obtain ⟨u,hu,ru⟩:=rv.get hx
  obtain ⟨f0,f1,f2,f3,f4,Z⟩:=W G (by simp)
  refine wpAny_pyNext_list_item st p.isList (x:=u) (by simpa using hu) fun h' J sb=>?_
  have I1:Inv X pins σ H { s with heap:=h' }:=I.turned (t':=s.toks) (fun b o B e=>(sb.2 b B).trans e) f0 f1 f3 f4 Z
  obtain ⟨o,e,c,d⟩:=id J
  exact ⟨u,rfl,ZfC (s:={ s with heap:=h' }) e c d (by decide) ⟨x,H,I1,ru,⟨rfl,fun ys hy=>by rw [I.list_inj hy Y];exact hx⟩,J,fun b B=>(W b B).1⟩⟩
 done:=by
  intro X hP hw hK hc i pins s σ H E I W st hg
  subst hP hw hK
  obtain ⟨xs,Y,hx⟩:=hg
  obtain ⟨its,rv,p,hz⟩:=I.list Y
  obtain ⟨f0,f1,f2,f3,f4,Z⟩:=W G (by simp)
  have hl:=rv.length
  exact wpAny_pyNext_list_end (I.ok.hd hc) st p.isList (by simp;omega) fun h' eb=>⟨rfl,I.turned (t':=s.toks) (fun b o B e=>eb b o B e) f0 f1 f3 f4 Z⟩
 self:=fun _ _ _ _ _ st h=>wpAny_pyIter_listiter st h
theorem Zgu {P:Qk}{w:Qs}{K:Qa}{tg:Expr}(a J:Addr):UR P w K tg (Itt K a) [J] J (fun i h=>h.IsTupleIter J a i) where
 mem:=by simp
 obj:=fun i h st b G=>by
  have e:b=J:=by simpa using G
  subst e
  obtain ⟨o,e,c,d⟩:=st
  exact ⟨o,e,fun v z=>by rw [d] at z;cases z⟩
 keep:=fun i h h' st k=>st.at fun o e=>k J (by simp) o e
 item:=by
  intro X hP hw hK hc i pins s σ H E I Y st hg
  subst hP hw hK
  obtain ⟨xs,x,Z,hx⟩:=hg
  obtain ⟨B,rv,p,hz⟩:=I.tuple Z
  obtain ⟨u,hu,ru⟩:=rv.get hx
  obtain ⟨f0,f1,f2,f3,f4,f5⟩:=Y J (by simp)
  refine wpAny_pyNext_tuple_item st (show s.heap.IsTuple a B.toArray from p) (x:=u) (by simpa using hu) fun h' W sb=>?_
  have I1:Inv X pins σ H { s with heap:=h' }:=I.turned (t':=s.toks) (fun b o G e=>(sb.2 b G).trans e) f0 f1 f3 f4 f5
  obtain ⟨o,e,c,d⟩:=id W
  exact ⟨u,rfl,ZfC (s:={ s with heap:=h' }) e c d (by decide) ⟨x,H,I1,ru,⟨rfl,fun ys hy=>by rw [I.tuple_inj hy Z];exact hx⟩,W,fun b G=>(Y b G).1⟩⟩
 done:=by
  intro X hP hw hK hc i pins s σ H E I Y st hg
  subst hP hw hK
  obtain ⟨xs,Z,hx⟩:=hg
  obtain ⟨B,rv,p,hz⟩:=I.tuple Z
  obtain ⟨f0,f1,f2,f3,f4,f5⟩:=Y J (by simp)
  have hl:=rv.length
  exact wpAny_pyNext_tuple_end (I.ok.hd hc) st (show s.heap.IsTuple a B.toArray from p) (by simp;omega) fun h' eb=>⟨rfl,I.turned (t':=s.toks) (fun b o G e=>eb b o G e) f0 f1 f3 f4 f5⟩
 self:=fun _ _ _ _ _ st h=>wpAny_pyIter_tupleiter st h
theorem Zgt {P:Qk}{w:Qs}{K:Qa}{tg:Expr}(B:Addr)(lo:Int)(n:Nat):UR P w K tg (Itr lo n) [B] B (fun i h=>IsRangeIter h B (lo+(i:Nat) * 1) ((n:Int) - (i:Nat)) 1) where
 mem:=by simp
 obj := fun i h st b G=>by
  have e:b=B:=by simpa using G
  subst e
  exact ⟨_,st,fun v z=>by
   have z':Data.fields _=Data.cell v:=z
   cases z'⟩
 keep:=fun i h h' st k=>k B (by simp) _ st
 item:=by
  intro X hP hw hK hc i pins s σ H E I Y st hg
  subst hP hw hK
  obtain ⟨f0,f1,f2,f3,f4,Z⟩:=Y B (by simp)
  have W:=Walks.range (prog:=X.prog) (w:=X.w) (I.ok.hd hc) B lo 1 n
  refine W.item i s _ _ hg st fun v h' tk hv J kk=>?_
  obtain ⟨t,rfl⟩:=hv
  have I1:Inv X pins σ H { s with heap:=h',toks:=tk }:=I.turned (fun b o G e=>kk b o (by simpa using G) e) f0 f1 f3 f4 Z
  refine ⟨_,rfl,ZfC (s:={ s with heap:=h',toks:=tk }) (n:="range_iterator") J rfl rfl (by decide) ⟨.int (lo+i),H,I1,⟨t,?_⟩,⟨rfl,rfl⟩,J,fun b G=>(Y b G).1⟩⟩
  rw [Int.mul_one]
 done:=by
  intro X hP hw hK hc i pins s σ H E I Y st hg
  subst hP hw hK
  obtain ⟨f0,f1,f2,f3,f4,Z⟩:=Y B (by simp)
  exact wpAny_pyNext_range_end (I.ok.hd hc) st (by have:n<=i:=hg;omega) fun h' eb=>⟨rfl,I.turned (t':=s.toks) (fun b o G e=>eb b o G e) f0 f1 f3 f4 Z⟩
 self:=fun _ _ _ _ _ st h=>wpAny_pyIter_rangeiter st h
section
variable {X:Cx}{tg:Expr}
inductive ZeG (K:Qa)(R:It->Hp->Prop)(x:V)(H1:Hp):Prop
 | mk (a:_):x=.ref a->(∃ xs,SqL K H1 a xs)->R (Itl K a) H1->ZeG K R x H1
def Znu (K:Qa)(tl:TE):TI:=fun σ H R=>tl σ H fun x H1=>ZeG K R x H1
inductive ZgP (K:Qa)(R:It->Hp->Prop)(x:V)(H1:Hp):Prop
 | mk (a:_):x=.ref a->(∃ xs,SqT K H1 a xs)->R (Itt K a) H1->ZgP K R x H1
def iTup (K:Qa)(tl:TE):TI:=fun σ H R=>tl σ H fun x H1=>ZgP K R x H1
theorem ZbO (W:PE X l tl):PI X tg l (Znu X.K tl):=by
 intro pins s σ H R I h
 refine Zw (W pins s σ H _ I h) fun v s1 J=>?_
 obtain ⟨x,H1,z,Y,q1⟩:=J
 obtain ⟨a,e,⟨xs,Z⟩,q⟩:=q1
 subst e
 cases Y
 obtain ⟨B,rv,p,hz⟩:=z.list Z
 refine OQ p.isList ?_
 refine ⟨s1.heap.objs.size,[s1.heap.objs.size],_,_,H1,rfl,z.kept (t':=s1.toks) fun b o e=>Qd _ e,Zia a _,⟨_,Ql _ rfl,rfl,rfl⟩,fun b G=>?_,q⟩
 have e:b=s1.heap.objs.size:=by simpa using G
 subst e
 exact z.fpOk (Qf _) (z.hok.fresh (Qf _))
theorem Zbo (W:PE X l tl):PI X tg l (iTup X.K tl):=by
 intro pins s σ H R I h
 refine Zw (W pins s σ H _ I h) fun v s1 J=>?_
 obtain ⟨x,H1,z,Y,q1⟩:=J
 obtain ⟨a,e,⟨xs,Z⟩,q⟩:=q1
 subst e
 cases Y
 obtain ⟨B,rv,p,hz⟩:=z.tuple Z
 refine JT (show s1.heap.IsTuple a B.toArray from p) ?_
 refine ⟨s1.heap.objs.size,[s1.heap.objs.size],_,_,H1,rfl,z.kept (t':=s1.toks) fun b o e=>Qd _ e,Zgu a _,⟨_,Ql _ rfl,rfl,rfl⟩,fun b G=>?_,q⟩
 have e:b=s1.heap.objs.size:=by simpa using G
 subst e
 exact z.fpOk (Qf _) (z.hok.fresh (Qf _))
theorem ZjB {pins:List (Addr×Obj)}{σ:St}{H:Hp}{s:Qe}{R:It->Hp->Prop}{E:Qc->Qe->Prop}{lo hi:Int}{t u v:Tok}{tk:Nat}(I:Inv X pins σ H s)(h1:-(2 ^ 62)<=lo)(h2:lo < 2 ^ 62)(W:-(2 ^ 62)<=hi)(J:hi < 2 ^ 62)
 (q:R (Itr lo (hi - lo).toNat) H):Qq (Qw X.prog X.w) X.A (pyIter (.ref s.heap.objs.size)) (PIE X pins σ tg R) E { s with heap:=s.heap.push { cls:=.type "range",data:=.fields #[.int lo t,.int hi u,.int 1 v] },toks:=tk }:=by
 refine wpAny_pyIter_range (IsRange.new ..) (small_one h1 h2 W J) ?_
 have z:Inv X pins σ H { s with heap:=s.heap.push { cls:=.type "range",data:=.fields #[.int lo t,.int hi u,.int 1 v] },toks:=tk }:=I.kept fun b o e=>Qd _ e
 refine ⟨(s.heap.push { cls:=.type "range",data:=.fields #[.int lo t,.int hi u,.int 1 v] }).objs.size,[(s.heap.push { cls:=.type "range",data:=.fields #[.int lo t,.int hi u,.int 1 v] }).objs.size],_,_,H,rfl,
  z.kept (t':=tk) fun b o e=>Qd _ e,Zgt _ lo (hi - lo).toNat,?_,fun b B=>?_,q⟩
 ·have e1:lo+((0:Nat):Int) * 1=lo:=by simp
  have G:(((hi - lo).toNat:Nat):Int) - ((0:Nat):Int)=Builtin.Range.rangeSize lo hi 1:=by rw [rangeSize_one];split<;>omega
  show IsRangeIter _ _ (lo+((0:Nat):Int) * 1) ((((hi - lo).toNat:Nat):Int) - ((0:Nat):Int)) 1
  rw [e1,G]
  exact Ql _ rfl
 ·have e:b=(s.heap.push { cls:=.type "range",data:=.fields #[.int lo t,.int hi u,.int 1 v] }).objs.size:=by simpa using B
  subst e
  exact z.fpOk (Qf _) (z.hok.fresh (Qf _))
inductive ZeH (R:It->Hp->Prop)(vs:List V)(H1:Hp):Prop
 | mk (j:Int):vs=[.int j]->-(2 ^ 62)<=j->j < 2 ^ 62->R (Itr 0 j.toNat) H1->ZeH R vs H1
def Znv (ta:TA):TI:=fun σ H R=>ta σ H fun vs H1=>ZeH R vs H1
theorem YT (G:Gl X "range")(B:X.mg "range"=none)(ha:PA X [a] ta)(hs:QA [a] X.env=[(false,eval a X.env)]:=by rfl):PI X tg (.Call (.Name "range" p) [a] [] pos) (Znv ta):=by
 intro pins s σ H R I h
 refine Call_ (Wp I G B boot_range (Gh (Zw (ha pos pins s σ H _ I h) fun us s1 J=>?_) hs rfl))
 obtain ⟨vs,H1,W,Y,z⟩:=J
 obtain ⟨j,e,z,Z,q⟩:=z
 subst e
 cases Y with
 | cons r rr =>
  cases rr
  obtain ⟨t,rfl⟩:=r
  exact call_range_1 (ZjB W (by omega) (by omega) z Z (by simpa using q))
def tFor (wi:TI)(g:TG)(tb:TS):TS:=fun D σ H=>wi σ H fun J H1=>∃ W:Nat->Nat->St->Hp->Prop,(∃ m,W 0 m σ H1)/\∀ i m σ H,W i m σ H ->
 (J.stop i H/\D.nx σ H)\/(J.go i H/\∃ N:St->Hp->Prop,(∀ σ' H',N σ' H'->∃ m',m' < m/\W (i+1) m' σ' H')/\∀ x H',J.yld i H x H'->g x σ H' fun σ2 H2=>tb { D with nx:=N,ct:=N,bk:=D.nx } σ2 H2)
def Zbp (fp:List Addr)(h:Heap):List (Addr×Obj):=fp.filterMap fun b=>(h.get? b).map fun o=>(b,o)
theorem XI (z:b∈fp)(e:h.get? b=some o):(b,o)∈Zbp fp h:=List.mem_filterMap.mpr ⟨b,z,by rw [e];rfl⟩
theorem Zhg (hp:p∈Zbp fp h):p.1∈fp/\h.get? p.1=some p.2:=by
 obtain ⟨b,B,e⟩:=List.mem_filterMap.mp hp
 cases q:h.get? b with
 | none=>rw [q] at e;cases e
 | some o =>
  rw [q] at e
  have z:(b,o)=p:=Qu e
  subst z
  exact ⟨B,q⟩
theorem Inv.pinned (I:Inv X pins σ H s)(J:∀ b∈fp,Xz X pins H b)(Y:∀ b∈fp,∃ o,s.heap.get? b=some o/\∀ v,o.data≠.cell v):Inv X (pins++Zbp fp s.heap) σ H s :=
 I.pins_of fun p hp=>(mem_append.mp hp).elim (fun z=>I.pin p (mem_append_right _ z)) fun z=>by
  obtain ⟨B,e⟩:=Zhg z
  obtain ⟨Z,W,f2,_⟩:=J p.1 B
  obtain ⟨o,G,d⟩:=Y p.1 B
  rw [e] at G;cases G
  exact ⟨e,Z,W,f2,d⟩
theorem Inv.unpinned {pins pl:List (Addr×Obj)}(I:Inv X (pins++pl) σ H s):Inv X pins σ H s:=I.pins_of fun p hp=>I.pin p (mem_append_right _ (PF _ hp))
theorem Wr (hp:PassesOwn (Qw X.prog X.w) X.A X.env X.xe)(hc:X.calm=true)(hi:PI X tg iter wi)(hg:PG X tg g)(Y:PSs X body tb)(hs:∀ x,GL iter X.env x=pure x:=by intro _;rfl):PS X (.For tg iter body [] pos) (tFor wi g tb):=by
 intro pins s σ H D I h
 refine wpAny_For (Zw (hi pins s σ H _ I h) fun v s1 h1=>Zw h1 fun itv s2 h2=>?_) hs
 obtain ⟨it,fp,tn,J,H2,e,I2,T,st2,f2,W,⟨m0,w0⟩,turn⟩:=h2
 subst e
 have stat:∀ {H':Hp},(∀ b∈fp,H' b=none)->∀ b∈fp,Xz X pins H' b:=fun hn b Y=>⟨hn b Y,(f2 b Y).2⟩
 refine codeAny_forLoop_any (fun n s'=>∃ i Z H',Inv X pins Z H' s'/\tn i s'.heap/\(∀ b∈fp,H' b=none)/\W i n Z H') ?_ m0 ⟨0,σ,H2,I2,st2,fun b Y=>(f2 b Y).1,w0⟩
 rintro n s3 ⟨i,G,H3,I3,st3,fr3,w3⟩
 rcases turn i n G H3 w3 with ⟨stop,qn⟩ | ⟨go,N,hN,step⟩
 ·refine GJ hp (Zw (T.done X rfl rfl rfl hc i pins s3 G H3 X.xe I3 (stat fr3) st3 stop) fun r s4 ⟨hr,I4⟩=>?_)
  subst hr
  exact PQ ⟨G,H3,I4,qn⟩
 ·refine GJ hp (Zw (T.item X rfl rfl rfl hc i pins s3 G H3 X.xe I3 (stat fr3) st3 go) fun r s4 zz=>?_)
  obtain ⟨u,hr,h4⟩:=zz
  subst hr
  refine GJ hp (Zw h4 fun _ s5 zz=>?_)
  obtain ⟨x,H5,I5,r5,y5,st5,fr5⟩:=zz
  have I5':=I5.pinned (stat fr5) (T.obj _ _ st5)
  refine GJ hp (Zw (hg _ s5 G H5 x u _ I5' r5 (step x H5 y5)) fun _ s6 zz=>?_)
  obtain ⟨σ6,H6,I6,q6⟩:=zz
  refine GJ hp (Zw (Y _ s6 σ6 H6 _ I6 q6) fun f s7 q7=>?_)
  have again:∀ {z:St} {B:Hp},Inv X (pins++Zbp fp s5.heap) z B s7->N z B->∃ m,m < n/\∃ i Z H',Inv X pins Z H' s7/\tn i s7.heap/\(∀ b∈fp,H' b=none)/\W i m Z H':=fun {z B} I7 n7=>by
   obtain ⟨m',hm,w7⟩:=hN z B n7
   refine ⟨m',hm,i+1,z,B,I7.unpinned,T.keep _ _ _ st5 fun b Y o e=>(I7.pin (b,o) (mem_append_right _ (mem_append_right _ (XI Y e)))).1,fun b Y=>?_,w7⟩
   obtain ⟨o,e,d⟩:=T.obj _ _ st5 b Y
   exact (I7.pin (b,o) (mem_append_right _ (mem_append_right _ (XI Y e)))).2.1
  cases f with
  | next=>obtain ⟨z,B,I7,n7⟩:=q7;exact again I7 n7
  | cont=>obtain ⟨z,B,I7,n7⟩:=q7;exact again I7 n7
  | brk=>obtain ⟨z,B,I7,q7⟩:=q7;exact ⟨z,B,I7.unpinned,q7⟩
  | ret v=>obtain ⟨x7,z,B,I7,r7,q7⟩:=q7;exact ⟨x7,z,B,I7.unpinned,r7,q7⟩
end
theorem Zdx {K:Qa}{a:Addr}{xs:List V}{g:TG}{tb:TS}{D:YA}{σ:St}{H:Hp}(z:Nat->St->Hp->Prop)(Z:z 0 σ H)(hl:∀ i σ H,i<=xs.length->z i σ H->SqL K H a xs)
 (hs:∀ i x σ H,xs[i]?=some x->z i σ H->g x σ H fun G H2=>tb { D with nx:=z (i+1),ct:=z (i+1),bk:=D.nx } G H2) (hd:∀ σ H,z xs.length σ H->D.nx σ H) :
 ∃ W:Nat->Nat->St->Hp->Prop,(∃ m,W 0 m σ H)/\∀ i m σ H,W i m σ H ->
  ((Itl K a).stop i H/\D.nx σ H)\/((Itl K a).go i H/\∃ N:St->Hp->Prop,(∀ B H',N B H'->∃ J,J < m/\W (i+1) J B H')/\∀ x H',(Itl K a).yld i H x H'->g x σ H' fun G H2=>tb { D with nx:=N,ct:=N,bk:=D.nx } G H2):=by
 refine ⟨fun i m σ H=>m=xs.length - i/\i<=xs.length/\z i σ H,⟨xs.length,by simp,Qx _,Z⟩,?_⟩
 rintro i m σ H ⟨rfl,hi,p⟩
 have q:=hl i σ H hi p
 by_cases I:i < xs.length
 ·refine .inr ⟨⟨xs,xs[i],q,by simp [I]⟩,z (i+1),fun B H' Y=>⟨xs.length - (i+1),by omega,rfl,I,Y⟩,fun x H' y=>?_⟩
  obtain ⟨e,y⟩:=y
  subst e
  exact hs i x σ _ (y xs q) p
 ·have e:i=xs.length:=by omega
  subst e
  exact .inl ⟨⟨xs,q,Qf _⟩,hd σ H p⟩
theorem WL {lo:Int}{n:Nat}{g:TG}{tb:TS}{D:YA}{σ:St}{H:Hp}(z:Nat->St->Hp->Prop)(Z:z 0 σ H)
 (hs:∀ i σ H,i < n->z i σ H->g (.int (lo+i)) σ H fun G H2=>tb { D with nx:=z (i+1),ct:=z (i+1),bk:=D.nx } G H2) (hd:∀ σ H,z n σ H->D.nx σ H) :
 ∃ W:Nat->Nat->St->Hp->Prop,(∃ m,W 0 m σ H)/\∀ i m σ H,W i m σ H ->
  ((Itr lo n).stop i H/\D.nx σ H)\/((Itr lo n).go i H/\∃ N:St->Hp->Prop,(∀ B H',N B H'->∃ J,J < m/\W (i+1) J B H')/\∀ x H',(Itr lo n).yld i H x H'->g x σ H' fun G H2=>tb { D with nx:=N,ct:=N,bk:=D.nx } G H2):=by
 refine ⟨fun i m σ H=>m=n - i/\i<=n/\z i σ H,⟨n,by simp,Qx _,Z⟩,?_⟩
 rintro i m σ H ⟨rfl,hi,p⟩
 by_cases I:i < n
 ·refine .inr ⟨I,z (i+1),fun B H' Y=>⟨n - (i+1),by omega,rfl,I,Y⟩,fun x H' y=>?_⟩
  obtain ⟨e,y⟩:=y
  subst e y
  exact hs i σ _ I p
 ·have e:i=n:=by omega
  subst e
  exact .inl ⟨Qf _,hd σ H p⟩
abbrev R2:=V->V->Hp->VK->Prop
def YW (X:Cx)(f:Qc->Qc->Sem Qc)(r:R2):Prop :=
 ∀ (pins:List (Addr×Obj)) (s:Qe) (σ:St) (H:Hp) (x y:V) (v u:Qc) (Q:VK),Inv X pins σ H s->RelV x v->RelV y u->r x y H Q ->
  Qq (Qw X.prog X.w) X.A (f v u) (EP X pins σ Q) X.xe s
def UnR (X:Cx)(f:Qc->Sem Qc)(r:V->Hp->VK->Prop):Prop :=
 ∀ (pins:List (Addr×Obj)) (s:Qe) (σ:St) (H:Hp) (x:V) (v:Qc) (Q:VK),Inv X pins σ H s->RelV x v->r x H Q ->
  Qq (Qw X.prog X.w) X.A (f v) (EP X pins σ Q) X.xe s
def YH (X:Cx)(f:Qc)(r:List V->Hp->VK->Prop):Prop :=
 ∀ (pins:List (Addr×Obj)) (s:Qe) (σ:St) (H:Hp) (xs:List V) (us:List Qc) (Q:VK),Inv X pins σ H s->Vals xs us->r xs H Q ->
  Qq (Qw X.prog X.w) X.A (call f us) (EP X pins σ Q) X.xe s
def TruR (X:Cx)(r:V->Hp->(Bool->Hp->Prop)->Prop):Prop :=
 ∀ (pins:List (Addr×Obj)) (s:Qe) (σ:St) (H:Hp) (x:V) (v:Qc) (Q:Bool->Hp->Prop),Inv X pins σ H s->RelV x v->r x H Q ->
  Qq (Qw X.prog X.w) X.A (truthy v) (TP X pins σ Q) X.xe s
def tOp (r:R2)(ta tb:TE):TE:=fun σ H Q=>ta σ H fun x H1=>tb σ H1 fun y H2=>r x y H2 Q
def tUn (r:V->Hp->VK->Prop)(ta:TE):TE:=fun σ H Q=>ta σ H fun x H1=>r x H1 Q
inductive rI_R (C:Int->Int->Prop)(g:Int->Int->V)(x y:V)(H:Hp)(Q:VK):Prop
 | mk (i j:_):x=.int i->y=.int j->C i j->Q (g i j) H->rI_R C g x y H Q
def rI (C:Int->Int->Prop)(g:Int->Int->V):R2:=fun x y H Q=>rI_R C g x y H Q
inductive Zkn (g:Int->Int->V)(x y:V)(H:Hp)(Q:VK):Prop
 | mk (i j:_):x=.int i->y=.int j->Q (g i j) H->Zkn g x y H Q
def rI0 (g:Int->Int->V):R2:=fun x y H Q=>Zkn g x y H Q
inductive rU_R (g:Int->V)(x:V)(H:Hp)(Q:VK):Prop
 | mk (i:_):x=.int i->Q (g i) H->rU_R g x H Q
def rU (g:Int->V):V->Hp->VK->Prop:=fun x H Q=>rU_R g x H Q
section
variable {X:Cx}{a b c:Expr}{ta tb tc:TE}{pos:Pos}
theorem Zii (ha:PE X a ta)(W:PE X b tb){pins:List (Addr×Obj)}{s:Qe}{σ:St}{H:Hp}{R:V->V->Hp->Prop}(I:Inv X pins σ H s)
 (h:ta σ H fun x H1=>tb σ H1 fun y H2=>R x y H2) {Q:Qc->Qe->Prop} {f:Qc->Qc->Sem Qc}
 (J:∀ v u s2 x y H2,Inv X pins σ H2 s2->RelV x v->RelV y u->R x y H2->Qq (Qw X.prog X.w) X.A (f v u) Q X.xe s2) :
 Qq (Qw X.prog X.w) X.A (eval a X.env) (fun v B=>Qq (Qw X.prog X.w) X.A (eval b X.env) (fun u z=>Qq (Qw X.prog X.w) X.A (f v u) Q X.xe z) X.xe B) X.xe s:=by
 refine Zw (ha pins s σ H _ I h) fun v s1 G=>?_
 obtain ⟨x,H1,Z,r1,q1⟩:=G
 refine Zw (W pins s1 σ H1 _ Z q1) fun u s2 G=>?_
 obtain ⟨y,H2,Y,r2,q2⟩:=G
 exact J v u s2 x y H2 Y r1 r2 q2
theorem Zp (J:YW X (JQ z) r)(Y:PE X a ta)(G:PE X b tb):PE X (.BinOp a z b pos) (tOp r ta tb):=by
 intro pins s σ H Q I h
 exact wpAny_BinOp (Zii Y G I h fun v u s2 x y H2 W B Z q=>J pins s2 σ H2 x y v u Q W B Z q)
theorem WV (B:UnR X (unaryOp z) r)(W:PE X a ta):PE X (.UnaryOp z a pos) (tUn r ta):=by
 intro pins s σ H Q I h
 exact UnaryOp_ (Zw (W pins s σ H _ I h) fun v s1 ⟨x,H1,G,J,Y⟩=>B pins s1 σ H1 x v Q G J Y)
theorem opI {f:Qc->Qc->Sem Qc}{C:Int->Int->Prop}{g:Int->Int->Int}
 (rule:∀ (i j:Int) (t u:Tok) (s:Qe) (Q:Qc->Qe->Prop) (E:Qc->Qe->Prop),C i j->Q (.int (g i j) s.toks) { s with toks:=s.toks+1 }->Qq (Qw X.prog X.w) X.A (f (.int i t) (.int j u)) Q E s) :
 YW X f (rI C fun i j=>.int (g i j)):=by
 intro pins s σ H x y v u Q I z G h
 obtain ⟨i,j,rfl,rfl,B,q⟩:=h
 obtain ⟨t,rfl⟩:=z
 obtain ⟨t',rfl⟩:=G
 exact rule i j t t' s _ _ B ⟨.int (g i j),H,I.tok _,⟨_,rfl⟩,q⟩
theorem opI0 {f:Qc->Qc->Sem Qc}{g:Int->Int->Int}
 (rule:∀ (i j:Int) (t u:Tok) (s:Qe) (Q:Qc->Qe->Prop) (E:Qc->Qe->Prop),Q (.int (g i j) s.toks) { s with toks:=s.toks+1 }->Qq (Qw X.prog X.w) X.A (f (.int i t) (.int j u)) Q E s) :
 YW X f (rI0 fun i j=>.int (g i j)):=by
 intro pins s σ H x y v u Q I B z h
 obtain ⟨i,j,rfl,rfl,q⟩:=h
 obtain ⟨t,rfl⟩:=B
 obtain ⟨t',rfl⟩:=z
 exact rule i j t t' s _ _ ⟨.int (g i j),H,I.tok _,⟨_,rfl⟩,q⟩
theorem ZfM {f:Qc->Qc->Sem Qc}{g:Int->Int->Bool}
 (rule:∀ (i j:Int) (t u:Tok) (s:Qe) (Q:Qc->Qe->Prop) (E:Qc->Qe->Prop),Q (.bool (g i j)) s->Qq (Qw X.prog X.w) X.A (f (.int i t) (.int j u)) Q E s) :
 YW X f (rI0 fun i j=>.bl (g i j)):=by
 intro pins s σ H x y v u Q I B z h
 obtain ⟨i,j,rfl,rfl,q⟩:=h
 obtain ⟨t,rfl⟩:=B
 obtain ⟨t',rfl⟩:=z
 exact rule i j t t' s _ _ ⟨.bl (g i j),H,I,rfl,q⟩
def CDiv (i j:Int):Prop:=0 < j/\j < 1073741824
def CPow (i j:Int):Prop:=0<=j/\j<=1000000/\i.natAbs < 2 ^ 64
def CMul (i j:Int):Prop:=(-(2 ^ 64) < i/\i < 2 ^ 64)\/(-(2 ^ 64) < j/\j < 2 ^ 64)
theorem CMul.ok {i j:Int}(h:CMul i j):IntMulOk i j:=by
 rcases h with ⟨h1,h2⟩ | ⟨h1,h2⟩
 ·exact .of_left (intBits_le_64 h1 h2)
 ·exact .of_right (intBits_le_64 h1 h2)
theorem Yf:YW X (JQ .Add) (rI0 fun i j=>.int (i+j)):=opI0 fun _ _ _ _ _ _ _ q=>add_int q
theorem YN:YW X (JQ .Sub) (rI0 fun i j=>.int (i - j)):=opI0 fun _ _ _ _ _ _ _ q=>sub_int q
theorem WN:YW X (JQ .Mult) (rI CMul fun i j=>.int (i * j)):=opI fun _ _ _ _ _ _ _ z q=>mul_int q z.ok
theorem ZeU:YW X (JQ .FloorDiv) (rI CDiv fun i j=>.int (i / j)):=opI fun i j _ _ _ _ _ z q=>by
 have h1:(0:Int) < j:=z.1
 have h2:j < 1073741824:=z.2
 exact floordiv_int (by omega) (by rw [JA i (by omega)];exact q) (.inl (SU (by omega)))
theorem XU:YW X (JQ .Mod) (rI (fun _ j=>0 < j) fun i j=>.int (i % j)):=opI fun i j _ _ _ _ _ z q=>by
 have h1:(0:Int) < j:=z
 exact mod_int' (by omega) (by rw [Tl i (by omega)];exact q)
theorem Zbl:YW X (JQ .Pow) (rI CPow fun i j=>.int (i ^ j.toNat)):=opI fun _ _ _ _ _ _ _ z q=>pow_int_small z.1 z.2.1 z.2.2 q
theorem unI {f:Qc->Sem Qc}{g:Int->Int}
 (rule:∀ (i:Int) (t:Tok) (s:Qe) (Q:Qc->Qe->Prop) (E:Qc->Qe->Prop),Q (.int (g i) s.toks) { s with toks:=s.toks+1 }->Qq (Qw X.prog X.w) X.A (f (.int i t)) Q E s) :
 UnR X f (rU fun i=>.int (g i)):=by
 intro pins s σ H x v Q I z h
 obtain ⟨i,rfl,q⟩:=h
 obtain ⟨t,rfl⟩:=z
 exact rule i t s _ _ ⟨.int (g i),H,I.tok _,⟨_,rfl⟩,q⟩
theorem Ww:UnR X (unaryOp .USub) (rU fun i=>.int (-i)):=unI fun _ _ _ _ _ q=>neg_int q
end
def scal:V->V->Bool
 | .non,.non=>true | .non,.int _=>true | .int _,.non=>true | .non,.bl _=>true | .bl _,.non=>true | .non,.str _=>true | .str _,.non=>true
 | .int _,.int _=>true | .bl _,.bl _=>true | .str _,.str _=>true | .byt _,.byt _=>true
 | .int _,.str _=>true | .str _,.int _=>true | .bl _,.str _=>true | .str _,.bl _=>true
 | _,_=>false
def rEq:R2:=fun x y H Q=>scal x y=true/\Q (.bl (decide (x=y))) H
def rNe:R2:=fun x y H Q=>scal x y=true/\Q (.bl (!decide (x=y))) H
theorem ZeD {i j:Int}:decide (V.int i=V.int j)=(i == j):=by
 rw [Jq]
 simp
theorem ZgF :decide (V.bl i=V.bl j)=(i == j):=by
 rw [Jq]
 simp
theorem ZeE :decide (V.str i=V.str j)=(i == j):=by
 rw [Jq]
 simp
theorem ZeC :decide (V.byt i=V.byt j)=(i.toList == j.toList):=by
 rw [Jq]
 cases i
 cases j
 simp
section
variable {X:Cx}{a b c:Expr}{ta tb tc:TE}{pos:Pos}
theorem ZP (I:Inv X pins σ H s)(q:Q (.bl k) H)(e:k=z):EP X pins σ Q (.bool z) s:=by
 subst e
 exact ⟨.bl k,H,I,rfl,q⟩
theorem ZY:YW X (Ge .Eq) rEq:=by
 intro pins s σ H x y v u Q I G z h
 obtain ⟨B,q⟩:=h
 cases x with
 | non =>
  cases G
  cases y with
  | non=>cases z;exact PySem.EqNone.eq_none_none (ZP I q (by simp))
  | bl j=>cases z;exact PySem.EqNone.eq_none_bool (ZP I q (by simp))
  | int j=>obtain ⟨t',rfl⟩:=z;exact PySem.EqNone.eq_none_int (ZP I q (by simp))
  | str j=>obtain ⟨t',rfl⟩:=z;exact PySem.EqNone.eq_none_str (ZP I q (by simp))
  | _=>exact absurd (show false=true from B) Qp
 | bl i =>
  cases G
  cases y with
  | non=>cases z;exact PySem.EqNone.eq_bool_none (ZP I q (by simp))
  | bl j=>cases z;exact eq_bool (ZP I q ZgF)
  | str j=>obtain ⟨t',rfl⟩:=z;exact PySem.EqMixed.eq_bool_str (ZP I q (by simp))
  | _=>exact absurd (show false=true from B) Qp
 | int i =>
  obtain ⟨t,rfl⟩:=G
  cases y with
  | non=>cases z;exact PySem.EqNone.eq_int_none (ZP I q (by simp))
  | int j=>obtain ⟨t',rfl⟩:=z;exact eq_int (ZP I q ZeD)
  | str j=>obtain ⟨t',rfl⟩:=z;exact PySem.EqMixed.eq_int_str (ZP I q (by simp))
  | _=>exact absurd (show false=true from B) Qp
 | str i =>
  obtain ⟨t,rfl⟩:=G
  cases y with
  | non=>cases z;exact PySem.EqNone.eq_str_none (ZP I q (by simp))
  | bl j=>cases z;exact PySem.EqMixed.eq_str_bool (ZP I q (by simp))
  | int j=>obtain ⟨t',rfl⟩:=z;exact PySem.EqMixed.eq_str_int (ZP I q (by simp))
  | str j=>obtain ⟨t',rfl⟩:=z;exact eq_str (ZP I q ZeE)
  | _=>exact absurd (show false=true from B) Qp
 | byt i =>
  obtain ⟨t,rfl⟩:=G
  cases y with
  | byt j=>obtain ⟨t',rfl⟩:=z;exact PySem.W.eq_bytes (ZP I q ZeC)
  | _=>exact absurd (show false=true from B) Qp
 | _=>cases y<;>exact absurd (show false=true from B) Qp
theorem Vh:YW X (Ge .NotEq) rNe:=by
 intro pins s σ H x y v u Q I G z h
 obtain ⟨B,q⟩:=h
 cases x with
 | non =>
  cases G
  cases y with
  | non=>cases z;exact PySem.EqNone.ne_none_none (ZP I q (by simp))
  | bl j=>cases z;exact PySem.EqNone.ne_none_bool (ZP I q (by simp))
  | int j=>obtain ⟨t',rfl⟩:=z;exact PySem.EqNone.ne_none_int (ZP I q (by simp))
  | str j=>obtain ⟨t',rfl⟩:=z;exact PySem.EqNone.ne_none_str (ZP I q (by simp))
  | _=>exact absurd (show false=true from B) Qp
 | bl i =>
  cases G
  cases y with
  | non=>cases z;exact PySem.EqNone.ne_bool_none (ZP I q (by simp))
  | bl j=>cases z;exact ne_bool (ZP I q (congrArg not ZgF))
  | str j=>obtain ⟨t',rfl⟩:=z;exact PySem.EqMixed.ne_bool_str (ZP I q (by simp))
  | _=>exact absurd (show false=true from B) Qp
 | int i =>
  obtain ⟨t,rfl⟩:=G
  cases y with
  | non=>cases z;exact PySem.EqNone.ne_int_none (ZP I q (by simp))
  | int j=>obtain ⟨t',rfl⟩:=z;exact ne_int (ZP I q (congrArg not ZeD))
  | str j=>obtain ⟨t',rfl⟩:=z;exact PySem.EqMixed.ne_int_str (ZP I q (by simp))
  | _=>exact absurd (show false=true from B) Qp
 | str i =>
  obtain ⟨t,rfl⟩:=G
  cases y with
  | non=>cases z;exact PySem.EqNone.ne_str_none (ZP I q (by simp))
  | bl j=>cases z;exact PySem.EqMixed.ne_str_bool (ZP I q (by simp))
  | int j=>obtain ⟨t',rfl⟩:=z;exact PySem.EqMixed.ne_str_int (ZP I q (by simp))
  | str j=>obtain ⟨t',rfl⟩:=z;exact ne_str (ZP I q (congrArg not ZeE))
  | _=>exact absurd (show false=true from B) Qp
 | byt i =>
  obtain ⟨t,rfl⟩:=G
  cases y with
  | byt j=>obtain ⟨t',rfl⟩:=z;exact PySem.W.ne_bytes (ZP I q (congrArg not ZeC))
  | _=>exact absurd (show false=true from B) Qp
 | _=>cases y<;>exact absurd (show false=true from B) Qp
theorem Us:YW X (Ge .Lt) (rI0 fun i j=>.bl (decide (i < j))):=ZfM fun _ _ _ _ _ _ _ q=>lt_int q
theorem Zkk:YW X (Ge .LtE) (rI0 fun i j=>.bl (decide (i<=j))):=ZfM fun _ _ _ _ _ _ _ q=>le_int q
theorem Zkj:YW X (Ge .Gt) (rI0 fun i j=>.bl (decide (j < i))):=ZfM fun _ _ _ _ _ _ _ q=>gt_int q
theorem Zki:YW X (Ge .GtE) (rI0 fun i j=>.bl (decide (j<=i))):=ZfM fun _ _ _ _ _ _ _ q=>ge_int q
theorem ZA (b:Expr)(h:z≠.In:=by decide)(h2:z≠.NotIn:=by decide):GS z b=false:=by
 have e1:(z == CmpOp.In)=false:=by cases z<;>first | rfl | exact absurd rfl h
 have B:(z == CmpOp.NotIn)=false:=by cases z<;>first | rfl | exact absurd rfl h2
 cases b<;>simp [GS,e1,B]
theorem Yx (W:YW X (Ge z) r)(Z:PE X a ta)(J:PE X b tb)(B:GS z b=false):PE X (.Compare a [z] [b] pos) (tOp r ta tb):=by
 intro pins s σ H Q I h
 exact wpAny_Compare1 (Zii Z J I h fun v u s2 x y H2 Y G ry q=>W pins s2 σ H2 x y v u Q Y G ry q) B
def Zku (t:TE):TT:=fun σ H Q=>t σ H fun x H'=>∃ k,x=.bl k/\Q k H'
theorem ZG (W:YW X (Ge B) r)(ha:PE X a ta)(J:PE X b tb)(G:GS B b=false):PT X (.Compare a [B] [b] pos) (Zku (tOp r ta tb)):=by
 intro pins s σ H Q I h
 refine Ry (Zw (ha pins s σ H _ I h) fun v s1 ⟨x,H1,I1,r1,q1⟩=>Zw (J pins s1 σ H1 _ I1 q1) fun u s2 ⟨y,H2,I2,Y,Z⟩ =>
  Zw (W pins s2 σ H2 x y v u _ I2 r1 Y Z) fun c s3 ⟨z,H3,I3,r3,k,e,q3⟩=>?_) G
 subst e
 cases r3
 exact Ga ⟨H3,I3,q3⟩
def ZhQ (r r':R2)(ta tb tc:TE):TE:=fun σ H Q=>ta σ H fun x H1=>tb σ H1 fun y H2=>r x y H2 fun z H3=>∃ k,z=.bl k /\
 (if k=true then tc σ H3 fun w' H4=>r' y w' H4 Q else Q (.bl false) H3)
theorem ZiW (ho:YW X (Ge G) r)(J:YW X (Ge B) Z)(ha:PE X a ta)(hb:PE X b tb)(hc:PE X c tc)(hm:lastMarks [G,B] [b,c]=false:=by with_unfolding_all rfl):PE X (.Compare a [G,B] [b,c] pos) (ZhQ r Z ta tb tc):=by
 intro pins s σ H Q I h
 refine Compare_chain (Zw (ha pins s σ H _ I h) fun v s1 ⟨x,H1,I1,r1,q1⟩=>chain_link (Zw (hb pins s1 σ H1 _ I1 q1) fun u s2 ⟨y,H2,I2,Y,q2⟩ =>
  Zw (ho pins s2 σ H2 x y v u _ I2 r1 Y q2) fun d s3 ⟨z,H3,W,r3,k,e,q3⟩=>?_)) hm
 subst e
 cases r3
 refine Ga ?_
 cases k with
 | false=>exact ite_ff ⟨.bl false,H3,W,rfl,q3⟩
 | true=>exact ite_tt (chain_last (Zw (hc pins s3 σ H3 _ W q3) fun w' s4 ⟨z',H4,I4,r4,q4⟩=>J pins s4 σ H4 y z' u w' Q I4 Y r4 q4))
theorem Zjx (ho:YW X (Ge J) r)(W:YW X (Ge B) r')(ha:PE X a ta)(hb:PE X b tb)(hc:PE X c tc)(hm:lastMarks [J,B] [b,c]=false:=by with_unfolding_all rfl):PT X (.Compare a [J,B] [b,c] pos) (Zku (ZhQ r r' ta tb tc)):=by
 intro pins s σ H Q I h
 refine isTrue_chain (Zw (ha pins s σ H _ I h) fun v s1 ⟨x,H1,I1,r1,q1⟩=>test_link (Zw (hb pins s1 σ H1 _ I1 q1) fun u s2 ⟨y,H2,I2,Z,q2⟩ =>
  Zw (ho pins s2 σ H2 x y v u _ I2 r1 Z q2) fun d s3 ⟨z,H3,Y,r3,k,e,q3⟩=>?_)) hm
 subst e
 cases r3
 refine Ga ?_
 cases k with
 | false =>
  obtain ⟨k',e',q'⟩:=q3
  cases e'
  exact ite_ff ⟨H3,Y,q'⟩
 | true =>
  refine ite_tt (test_last (Zw (hc pins s3 σ H3 _ Y q3) fun w' s4 G=>?_))
  obtain ⟨z',H4,I4,r4,q4⟩:=G
  refine Zw (W pins s4 σ H4 y z' u w' _ I4 Z r4 q4) fun d' s5 G=>?_
  obtain ⟨z2,H5,I5,r5,k2,e2,q5⟩:=G
  subst e2
  cases r5
  exact Ga ⟨H5,I5,q5⟩
def TruV (K:Qa)(x:V)(H:Hp)(k:Bool):Prop :=
 match x with
 | .non=>k=false
 | .bl b=>k=b
 | .int i=>k=(i != 0)
 | .str y=>y.length<=Qg/\k=((y.length:Int) != 0)
 | .byt y=>y.size<=Qg/\k=((y.size:Int) != 0)
 | .ref p=>(∃ xs,SqL K H p xs/\k=!xs.isEmpty)\/(∃ xs,SqT K H p xs/\k=!xs.isEmpty)\/∃ kvs,H p=some (.dK kvs)/\k=!kvs.isEmpty
 | _=>False
theorem ZfD {κ:Type}{kvs:List (κ×V)}{vs:List (κ×Qc)}(r:KV kvs vs):(!vs.isEmpty)=!kvs.isEmpty:=by
 cases r<;>rfl
theorem Zbe (r:Vals xs z):(!z.toArray.isEmpty)=!xs.isEmpty:=by
 cases r<;>simp
theorem Uf:(Qg:Nat) < 2 ^ 63:=by rw [Gg];decide
theorem Znk:TruR X (fun x H Q=>∃ k,TruV X.K x H k/\Q k H):=by
 intro pins s σ H x v Q I G h
 obtain ⟨k,e,q⟩:=h
 have hl:=Uf
 have hs:Qg=16777216:=Gg
 cases x with
 | non =>
  cases G
  have z:k=false:=e
  subst z
  exact truthy_none ⟨H,I,q⟩
 | bl b =>
  cases G
  have z:k=b:=e
  subst z
  exact Ga ⟨H,I,q⟩
 | int i =>
  obtain ⟨t,rfl⟩:=G
  have z:k=(i != 0):=e
  subst z
  exact PySem.P.truthy_int ⟨H,I,q⟩
 | str y =>
  obtain ⟨t,rfl⟩:=G
  obtain ⟨hy,z⟩:y.length<=Qg/\k=((y.length:Int) != 0):=e
  subst z
  exact PySem.P.truthy_str (by omega) ⟨H,I.tok _,q⟩
 | byt y =>
  obtain ⟨t,rfl⟩:=G
  obtain ⟨hy,z⟩:y.size<=Qg/\k=((y.size:Int) != 0):=e
  subst z
  exact PySem.W.truthy_bytes (by omega) ⟨H,I.tok _,q⟩
 | ref p =>
  cases G
  have z:(∃ xs,SqL X.K H p xs/\k=!xs.isEmpty)\/(∃ xs,SqT X.K H p xs/\k=!xs.isEmpty)\/∃ kvs,H p=some (.dK kvs)/\k=!kvs.isEmpty:=e
  rcases z with ⟨xs,J,z⟩ | ⟨xs,J,z⟩ | ⟨kvs,J,z⟩
  ·subst z
   obtain ⟨Y,r,pl,Z⟩:=I.list J
   have B:=r.length
   exact wpAny_truthy_list pl.isList (by simp only [size_toArray];omega) ⟨H,I.tok _,by rw [Zbe r];exact q⟩
  ·subst z
   obtain ⟨Y,r,pl,Z⟩:=I.tuple J
   have B:=r.length
   exact truthy_tuple pl (by simp only [size_toArray];omega) ⟨H,I.tok _,by rw [Zbe r];exact q⟩
  ·subst z
   obtain ⟨Z,hS,vs,r,m⟩:kvs.length<=Qg/\(p == GQ)=false/\∃ vs,KV kvs vs/\s.heap.DictOf (ZL X.prog X.w) p vs:=I.hok p _ J
   have B:kvs.length=vs.length:=Pw r
   exact wpAny_truthy_dict hS m (by omega) ⟨H,I.tok _,by rw [ZfD r];exact q⟩
 | _=>exact (show False from e).elim
theorem Vl (W:PE X a ta)(B:∀ z,isTrue a X.env z=(do let v <- z;TW a.pos;JL [v] (truthy v))) :
 PT X a (fun σ H Q=>ta σ H fun x H'=>∃ k,TruV X.K x H' k/\Q k H'):=by
 intro pins s σ H Q I h
 exact isTrue_plain (Zw (W pins s σ H _ I h) fun v s1 ⟨x,H1,G,J,Y⟩=>Znk pins s1 σ H1 x v Q G J Y) (B _)
theorem Wq:YW X (JQ .Add) (fun x y H Q=>∃ i j,x=.str i/\y=.str j/\i.length+j.length<=Qg/\Q (.str (i++j)) H):=by
 intro pins s σ H x y v u Q I B G h
 obtain ⟨i,j,rfl,rfl,z,q⟩:=h
 obtain ⟨t,rfl⟩:=B
 obtain ⟨t',rfl⟩:=G
 exact add_str (fun t' tk=>⟨.str (i++j),H,I.tok _,⟨_,rfl⟩,q⟩) z
theorem YQ (r:Vals [x] us):∃ u,us=[u]/\RelV x u:=by
 cases r with
 | cons r1 r2=>cases r2;exact ⟨_,rfl,r1⟩
theorem VZ (r:Vals [x,y] us):∃ u z,us=[u,z]/\RelV x u/\RelV y z:=by
 cases r with
 | cons r1 r2 =>
  cases r2 with
  | cons r3 r4=>cases r4;exact ⟨_,_,rfl,r1,r3⟩
theorem Zdi:YH X (.builtin "abs") (fun xs H Q=>∃ i,xs=[.int i]/\Q (.int (if i < 0 then -i else i)) H):=by
 intro pins s σ H xs us Q I r h
 obtain ⟨i,rfl,q⟩:=h
 obtain ⟨u,rfl,t,rfl⟩:=YQ r
 exact call_abs_int fun u tk=>⟨.int (if i < 0 then -i else i),H,I.tok _,⟨_,rfl⟩,q⟩
theorem ZgB (B:X.calm=true):YH X (.builtin "max") (fun xs H Q=>∃ i j,xs=[.int i,.int j]/\Q (.int (if j > i then j else i)) H):=by
 intro pins s σ H xs us Q I r h
 obtain ⟨i,j,rfl,q⟩:=h
 obtain ⟨u,G,rfl,⟨t,rfl⟩,⟨t',rfl⟩⟩:=VZ r
 refine max_two_ints (I.ok.hd B) fun h' tk k=>⟨_,H,I.kept k,?_,q⟩
 by_cases z:j > i
 ·rw [if_pos z,if_pos z];exact ⟨_,rfl⟩
 ·rw [if_neg z,if_neg z];exact ⟨_,rfl⟩
theorem ZgC (B:X.calm=true):YH X (.builtin "min") (fun xs H Q=>∃ i j,xs=[.int i,.int j]/\Q (.int (if j < i then j else i)) H):=by
 intro pins s σ H xs us Q I r h
 obtain ⟨i,j,rfl,q⟩:=h
 obtain ⟨u,G,rfl,⟨t,rfl⟩,⟨t',rfl⟩⟩:=VZ r
 refine min_two_ints (I.ok.hd B) fun h' tk k=>⟨_,H,I.kept k,?_,q⟩
 by_cases z:j < i
 ·rw [if_pos z,if_pos z];exact ⟨_,rfl⟩
 ·rw [if_neg z,if_neg z];exact ⟨_,rfl⟩
theorem Zcn:YH X (.type "int") (fun xs H Q=>(∃ i,xs=[.int i]/\Q (.int i) H)\/∃ k,xs=[.bl k]/\Q (.int (if k then 1 else 0)) H):=by
 intro pins s σ H xs us Q I r h
 rcases h with ⟨i,rfl,q⟩ | ⟨k,rfl,q⟩
 ·obtain ⟨u,rfl,t,rfl⟩:=YQ r
  exact call_int_int ⟨.int i,H,I,⟨_,rfl⟩,q⟩
 ·obtain ⟨u,rfl,z⟩:=YQ r
  cases z
  exact call_int_bool ⟨.int (if k then 1 else 0),H,I.tok _,⟨_,rfl⟩,q⟩
theorem Zdj:YH X (.builtin "ord") (fun xs H Q=>∃ x,xs=[.str x]/\x.length=1/\Q (.int (x.cps.getD 0 0:Nat)) H):=by
 intro pins s σ H xs us Q I r h
 obtain ⟨x,rfl,z,q⟩:=h
 obtain ⟨u,rfl,t,rfl⟩:=YQ r
 exact ord_of_one z ⟨.int _,H,I.tok _,⟨_,rfl⟩,q⟩
def Zif (K:Qa)(x:V)(H:Hp)(n:Nat):Prop :=
 match x with
 | .str y=>y.length<=Qg/\n=y.length
 | .byt y=>y.size<=Qg/\n=y.size
 | .ref p=>(∃ xs,SqL K H p xs/\n=xs.length)\/∃ xs,SqT K H p xs/\n=xs.length
 | _=>False
theorem Zik:YH X (.builtin "len") (fun xs H Q=>∃ x n,xs=[x]/\Zif X.K x H n/\Q (.int n) H):=by
 intro pins s σ H xs us Q I r h
 obtain ⟨x,n,rfl,e,q⟩:=h
 obtain ⟨u,rfl,J⟩:=YQ r
 have hl:=Uf
 have hs:Qg=16777216:=Gg
 cases x with
 | str y =>
  obtain ⟨t,rfl⟩:=J
  obtain ⟨hy,B⟩:y.length<=Qg/\n=y.length:=e
  subst B
  exact len_str (by omega) ⟨.int _,H,I.tok _,⟨_,rfl⟩,q⟩
 | byt y =>
  obtain ⟨t,rfl⟩:=J
  obtain ⟨hy,B⟩:y.size<=Qg/\n=y.size:=e
  subst B
  exact PySem.W.len_bytes (by omega) ⟨.int _,H,I.tok _,⟨_,rfl⟩,q⟩
 | ref p =>
  cases J
  have B:(∃ xs,SqL X.K H p xs/\n=xs.length)\/∃ xs,SqT X.K H p xs/\n=xs.length:=e
  rcases B with ⟨xs,Y,B⟩ | ⟨xs,Y,B⟩
  ·subst B
   obtain ⟨G,Z,pl,hz⟩:=I.list Y
   have z:=Z.length
   exact RX pl.isList (by simp only [size_toArray];omega) ⟨.int xs.length,H,I.tok _,⟨_,by simp only [size_toArray];rw [z]⟩,q⟩
  ·subst B
   obtain ⟨G,Z,pl,hz⟩:=I.tuple Y
   have z:=Z.length
   exact len_tuple pl (by simp only [size_toArray];omega) ⟨.int xs.length,H,I.tok _,⟨_,by simp only [size_toArray];rw [z]⟩,q⟩
 | _=>exact (show False from e).elim
theorem Zet:YH X (.builtin "divmod") (fun xs H Q=>∃ i j,xs=[.int i,.int j]/\CDiv i j/\∀ p,H p=none->Q (.ref p) (upd H p (.tup [.int (i / j),.int (i % j)]))):=by
 intro pins s σ H xs us Q I r h
 obtain ⟨i,j,rfl,⟨h1,h2⟩,q⟩:=h
 obtain ⟨u,B,rfl,⟨t,rfl⟩,⟨t',rfl⟩⟩:=VZ r
 refine divmod_int (by omega) ?_ (.inl (SU (by omega)))
 rw [JA i (by omega),Tl i (by omega)]
 have z:H s.heap.objs.size=none:=I.hok.fresh (Qf _)
 refine ⟨.ref s.heap.objs.size,_,?_,rfl,q _ z⟩
 refine I.laid (fun b o e=>Qd _ e) (Qf _) ⟨by simp only [length_cons,Rm];rw [Gg];decide,[.int (i / j) s.toks,.int (i % j) (s.toks+1)],.cons ⟨_,rfl⟩ (.cons ⟨_,rfl⟩ .nil),?_⟩
 exact ⟨_,Ql s.heap rfl,rfl,0,rfl⟩
end
structure ObjM (h:Heap)(x dx C:Addr)(mA:Str->Option Qc):Prop where
 obj:h.get? x=some (Gv C dx)
 ns:h.Ns1 dx mA
 ne:dx≠x
theorem Zhc {h:Heap}{dx:Addr}{mA:Str->Option Qc}(n:h.Ns1 dx mA):∃ G,h.get? dx=some G/\∀ name,Tn name G=some (mA name):=by
 obtain ⟨o,es,ep,W,hd,Z,_,J⟩:=n
 refine ⟨o,W,fun name=>?_⟩
 have e:=J name
 unfold nsFind findBy at e
 rw [<- Array.find?_toList] at e
 unfold Tn
 rw [hd]
 dsimp only
 split
 ·rename_i y q
  rw [q] at e
  exact congrArg some e
 ·rename_i q
  rw [q] at e
  have a:es.toList.any (·.refKey)=false:=by
   rw [List.any_eq_false]
   intro y I
   obtain ⟨z,t,B⟩:=Z y (Array.mem_toList_iff.mp I)
   simp [DictEntry.refKey,B]
  have Y:¬ es.toList.any (·.refKey)=true:=by rw [a];exact Qp
  rw [if_neg Y]
  exact congrArg some e
theorem ObjM.look (I:ObjM h x dx C mA):∃ z,PySem.W.InstAt h x (Gv C dx) C (some z)/\∀ name,Tn name z=some (mA name) :=
 let ⟨z,ho,hl⟩:=Zhc I.ns
 ⟨z,⟨I.obj,rfl,rfl,ho⟩,hl⟩
section
variable {prog:Qk}{w:Qs}{A:QD}{E:Qc->Qe->Prop}{s:Qe}{K:Qa}{x dx C f:Addr}{mA:Str->Option Qc}{name:Str}{v:Qc}
theorem ZkH (X:K.In s.heap)(I:ObjM s.heap x dx C mA)(Y:Pq K C name=true)(hh:TY K C=true)(ha:QL K (.ref C) name=some none)(G:mA name=some v)(B:Nu v=true)(h:Q v { s with toks:=s.toks+1 }):
 Qq (Qw prog w) A (getAttr (.ref x) name z) Q E s:=by
 obtain ⟨od,J,Z⟩:=I.look
 exact PySem.W.get_value X J (Ta Y).1 (PySem.W.findObj_own hh ha rfl (by rw [Z,G])) B h
theorem Zit (X:K.In s.heap)(I:ObjM s.heap x dx C mA)(z:Pq K C name=true)(B:QL K (.ref C) name=some (some (.ref f)))(ht:OR K (.ref f)=true)(Y:mA name=none)(h:Q (.ref f,[.ref x]) s):
 Qq (Qw prog w) A (Sy (.ref x) name pl) Q E s:=by
 obtain ⟨G,J,Z⟩:=I.look
 exact PySem.W.method_fn X J (Ta z).1 (Ta z).2 B (beq_iff_eq.mp ht) (by show (Tn name G).map (·.isSome)=some false;rw [Z,Y];rfl) h
theorem Zlw (X:K.In s.heap)(I:ObjM s.heap x dx C mA)(hs:QL K (.ref C) "__setattr__"=some (some (.builtin "object.__setattr__")))(hp:OS K C=true)(ht:Rn K C name=some none)(hh:TY K C=true)(hw:OL mA ns)(hsz:ns.length<=Qg)(h:∀ h',ObjM h' x dx C (fun y=>if y=name then some v else mA y)->Tb dx s.heap h'->Q () { s with heap:=h',toks:=s.toks+2 }):
 Qq (Qw prog w) A (setAttr (.ref x) name v) Q E s:=by
 obtain ⟨od,J,hl⟩:=I.look
 refine PySem.W.set_plain X J hs (PySem.W.osa_open (s:={ s with toks:=s.toks+1 }) (r:=none) X J hp ht fun b=>?_)
 obtain ⟨cd,hc,G⟩:=PySem.W.any_some hh
 have hx:s.heap.get? x=some ⟨.ref C,some dx,.plain,#[]⟩:=I.obj
 refine Qb (Qh (Qb (Qb (wpAny_loadPart hx (Qb (PySem.W.Looks.here (s:={ s with toks:=s.toks+1 }) (PySem.W.looks_clsIn X hc) ?_))))))
 rw [G]
 refine Qh (a:=some dx) (Qb (Qh (Qb ?_)))
 refine wpAny_nsSet1 (s:={ s with toks:=s.toks+1 }) I.ns fun h' B z=>?_
 obtain ⟨oD,esD,epD,hoD,Y,Z⟩:=B.count (PySem.Within.cons name v hw)
 refine Qb (wpAny_lookBehind hoD (by rw [Y];exact pastItsLine_dict (Qo Z (by rw [length_cons];omega))) ?_)
 exact Qh (h _ ⟨(z.2 _ (JK I.ne)).trans I.obj,B,I.ne⟩ z)
theorem Ziz (X:K.In s.heap)(G:Ro K C=true)(hi:QL K (.ref C) "__init__"=some (some (.ref f)))(B:PySem.W.typeIn K (.ref f)=some (.type "function"))(h:Tc (Qw prog w) (A.under (.builtin "type.__call__" ⟨.ref C::vs,z⟩)) (.call (.ref f) ⟨.ref (s.heap.objs.size+1)::vs,z⟩) (PySem.W.InitBack (s.heap.objs.size+1) R)
  {s with heap:=(s.heap.push Gi).push (Gv C s.heap.objs.size) }):
 Tc (Qw prog w) A (.call (.ref C) ⟨vs,z⟩) R s:=by
 obtain ⟨I,g,d,t,os⟩:=s
 exact PySem.W.make_core (PySem.W.makes_of X G) (PySem.W.looks_findIn X hi) (fun self=>PySem.W.bind_fn X self B) (.inl rfl) h
end
def XB (f:Str)(v:V):List (Str×V)->List (Str×V)
 | []=>[(f,v)]
 | (g,x)::r=>if g=f then (g,v)::r else (g,x)::XB f v r
theorem Xf (f g:Str)(v:V):∀ fs:List (Str×V),(XB f v fs).lookup g=if g=f then some v else fs.lookup g
 | []=>by
  show JB g [(f,v)]=_
  by_cases h:g=f
  ·have z:(g == f)=true:=beq_iff_eq.mpr h
   simp only [JB,z,if_pos h]
  ·have z:(g == f)=false:=beq_eq_false_iff_ne.mpr h
   simp only [JB,z,if_neg h]
 | (k, x)::r=>by
  have G:=Xf f g v r
  rw [show XB f v ((k,x)::r)=(if k=f then (k,v)::r else (k,x)::XB f v r) from rfl]
  by_cases B:k=f
  ·rw [if_pos B]
   by_cases h:g=k
   ·have z:(g == k)=true:=beq_iff_eq.mpr h
    simp only [JB,z,if_pos (h.trans B)]
   ·have z:(g == k)=false:=beq_eq_false_iff_ne.mpr h
    simp only [JB,z,if_neg (fun e:g=f=>h (e.trans B.symm))]
  ·rw [if_neg B]
   by_cases h:g=k
   ·have z:(g == k)=true:=beq_iff_eq.mpr h
    simp only [JB,z,if_neg (fun e:g=f=>B (h.symm.trans e))]
   ·have z:(g == k)=false:=beq_eq_false_iff_ne.mpr h
    simp only [JB,z]
    exact G
theorem Vz (f:Str)(v:V):∀ fs:List (Str×V),f∈(XB f v fs).map (·.1)/\∀ g,g∈fs.map (·.1)->g∈(XB f v fs).map (·.1)
 | []=>⟨by simp [XB],fun g h=>by simp at h⟩
 | (k, x)::r=>by
  obtain ⟨B,G⟩:=Vz f v r
  rw [show XB f v ((k,x)::r)=(if k=f then (k,v)::r else (k,x)::XB f v r) from rfl]
  by_cases z:k=f
  ·rw [if_pos z]
   subst z
   exact ⟨by simp,fun g h=>by simpa using h⟩
  ·rw [if_neg z]
   refine ⟨?_,fun g h=>?_⟩
   ·rw [map_cons]
    exact mem_cons_of_mem _ B
   ·rw [map_cons] at h ⊢
    rcases mem_cons.mp h with e | e
    ·exact mem_cons.mpr (.inl e)
    ·exact mem_cons_of_mem _ (G g e)
theorem Zaf (f:Str)(v:V):∀ fs:List (Str×V),(XB f v fs).length<=fs.length+1
 | []=>by simp [XB]
 | (k,x)::r=>by
  have B:=Zaf f v r
  rw [show XB f v ((k,x)::r)=(if k=f then (k,v)::r else (k,x)::XB f v r) from rfl]
  by_cases z:k=f
  ·rw [if_pos z,length_cons,length_cons];omega
  ·rw [if_neg z,length_cons,length_cons];omega
theorem RelO.some_of {v:V}(r:RelO (some v) o):∃ u,o=some u/\RelV v u:=by
 cases o with
 | none=>exact (show False from r).elim
 | some u=>exact ⟨u,rfl,r⟩
theorem RelO.none_of (r:RelO none o):o=none:=by
 cases o with
 | none=>rfl
 | some u=>exact (show False from r).elim
theorem ZgN (r:RelV v u):Nu u=true:=by
 cases v with
 | non=>cases (show u=GP from r);rfl
 | bl b=>cases (show u=Jz b from r);rfl
 | int i=>obtain ⟨t,e⟩:=(show ∃ t,u=Po i t from r);cases e;rfl
 | str x=>obtain ⟨t,e⟩:=(show ∃ t,u=JH x t from r);cases e;rfl
 | byt b=>obtain ⟨t,e⟩:=(show ∃ t,u=Value.bytes b t from r);cases e;rfl
 | flt b=>obtain ⟨t,e⟩:=(show ∃ t,u=RG b t from r);cases e;rfl
 | ref a=>cases (show u=Qv a from r);rfl
 | ty n=>cases (show u=SN n from r);rfl
section
variable {P:Qk}{w:Qs}{H H':Hp}{h h':Heap}{a C dx:Addr}{fs fs':List (Str×V)}
theorem UF (B:HOk P w H h)(e:H a=some (.ins C dx fs)):∃ mA,ObjM h a dx C mA/\(∀ f,RelO (fs.lookup f) (mA f))/\OL mA (fs.map (·.1))/\fs.length<=1000/\H dx=some (.own a):=by
 obtain ⟨d,z,ne,G,mA,n,r,q⟩:=(show ObjOk P w H h a (.ins C dx fs) from B a _ e)
 exact ⟨mA,⟨G,n,ne⟩,r,q,z,d⟩
end
structure Cls (K:Qa)(C:Addr):Prop where
 pg:Pq K C Str.empty=true
 hd:TY K C=true
 po:OS K C=true
 sa:QL K (.ref C) "__setattr__"=some (some (.builtin "object.__setattr__"))
theorem Cls.get {K:Qa}{C:Addr}(c:Cls K C)(f:Str):Pq K C f=true:=c.pg
def NoAttr (K:Qa)(C:Addr)(f:Str):Prop:=QL K (.ref C) f=some none
theorem NoAttr.taker {K:Qa}{C:Addr}{f:Str}(n:NoAttr K C f):Rn K C f=some none:=by
 unfold Rn
 rw [show QL K (.ref C) f=some none from n]
 rfl
structure Zam (K:Qa)(C:Addr)(m:Str)(f:Addr):Prop where
 at_:QL K (.ref C) m=some (some (.ref f))
 fn:OR K (.ref f)=true
 kp:Ja K (.ref f)=true
section
variable {X:Cx}{pins:List (Addr×Obj)}{σ:St}{H:Hp}{s:Qe}{a C dx:Addr}{fs:List (Str×V)}{f:Str}{v:V}{A:QD}{E:Qc->Qe->Prop}
theorem ZfB (I:Inv X pins σ H s)(e:H a=some (.ins C dx fs))(c:Cls X.K C)(n:NoAttr X.K C f)(l:fs.lookup f=some v)(h:∀ u s',Inv X pins σ H s'->RelV v u->Q u s'):Qq (Qw X.prog X.w) A (getAttr (.ref a) f b) Q E s:=by
 obtain ⟨mA,O,r,_,_,_⟩:=UF I.hok e
 obtain ⟨u,B,z⟩:=RelO.some_of (v:=v) (o:=mA f) (by rw [<- l];exact r f)
 exact ZkH I.kIn O (c.get f) c.hd n B (ZgN z) (h u _ (I.tok _) z)
theorem Zbb (I:Inv X pins σ H s)(e:H a=some (.ins C dx fs))(c:Cls X.K C)(k:Zam X.K C m g)(l:fs.lookup m=none)(h:Q (.ref g,[.ref a]) s):Qq (Qw X.prog X.w) A (Sy (.ref a) m pl) Q E s:=by
 obtain ⟨mA,O,r,_,_,_⟩:=UF I.hok e
 have z:mA m=none:=RelO.none_of (by rw [<- l];exact r m)
 exact Zit I.kIn O (c.get m) k.at_ k.fn z h
theorem Zgb (I:Inv X pins σ H s)(e:H a=some (.ins C dx fs))(c:Cls X.K C)(n:NoAttr X.K C f)(hl:fs.length < 1000)(ry:RelV y u)(h:∀ s',Inv X pins σ (upd H a (.ins C dx (XB f y fs))) s'->Q () s'):Qq (Qw X.prog X.w) A (setAttr (.ref a) f u) Q E s:=by
 obtain ⟨mA,O,r,wi,_,G⟩:=UF I.hok e
 have J:(fs.map (·.1)).length<=sizeLine:=by rw [length_map,Gg];omega
 refine Zlw I.kIn O c.sa c.po n.taker c.hd wi J fun h' B Z=>h _ ?_
 have hd:∃ o,h'.get? dx=some o:=let ⟨o,_,_,e',_⟩:=B.ns;⟨o,e'⟩
 refine I.write (x:=a) (e:=dx) (by rw [e];exact QZ) (.inr G) (fun b q W z=>(Z.2 b W).trans z) hd ?_
 refine ⟨by rw [Zj O.ne];exact G,?_,O.ne,B.obj,_,B.ns,fun g=>?_,fun g Y=>?_⟩
 ·have:=Zaf f y fs;omega
 ·show RelO ((XB f y fs).lookup g) (if g=f then some u else mA g)
  rw [Xf]
  by_cases q:g=f
  ·rw [if_pos q,if_pos q];exact ry
  ·rw [if_neg q,if_neg q];exact r g
 ·by_cases q:g=f
  ·rw [q];exact (Vz f y fs).1
  ·refine (Vz f y fs).2 g (wi g fun z=>Y ?_)
   show (if g=f then some u else mA g)=none
   rw [if_neg q];exact z
theorem Inv.made (I:Inv X pins σ H s):Inv X pins σ (upd (upd H s.heap.objs.size (.own (s.heap.objs.size+1))) (s.heap.objs.size+1) (.ins C s.heap.objs.size []))
 {s with heap:=(s.heap.push Gi).push (Gv C s.heap.objs.size) }:=by
 have e1:(s.heap.push Gi).get? s.heap.objs.size=some PySem.W.emptyDict:=Ql s.heap rfl
 have J:((s.heap.push Gi).push (Gv C s.heap.objs.size)).get? (s.heap.objs.size+1)=some (Gv C s.heap.objs.size):=by
  have:=Ql (s.heap.push Gi) (o:=Gv C s.heap.objs.size) rfl
  rwa [Gj] at this
 have B:(s.heap.push Gi).Ns s.heap.objs.size (fun _=>none):=⟨Gi,#[],_,e1,rfl,(fun e G=>absurd G (by simp)),fun _=>rfl⟩
 have Y:=I.laid (a:=s.heap.objs.size) (o:=.own (s.heap.objs.size+1)) (h':=s.heap.push Gi) (t':=s.toks) (fun b u q=>Qd _ q) (Qf _) ⟨_,e1⟩
 refine Y.laid (a:=s.heap.objs.size+1) (o:=.ins C s.heap.objs.size []) (t':=s.toks) (fun b u q=>Qd _ q) (Td (Gj _ _)) ?_
 have ne:s.heap.objs.size≠s.heap.objs.size+1:=Qt (Sz _)
 refine ⟨by rw [Zj ne,Zh],Qx _,ne,J,fun _=>none,(Heap.Ns1.of_empty B).at fun o q=>Qd _ q,fun _=>QZ,fun y z=>absurd rfl z⟩
theorem ZkD (B:JR e f env (eval e env)=eval e env)(h:Qq (Qw prog w) A (eval e env) (fun o z=>Qq (Qw prog w) A (getAttr o f true) Q E z) E s):Qq (Qw prog w) A (eval (.Attribute e f pos) env) Q E s :=
 Attribute_any_ h (by rw [arm_eval_Attribute,B])
end
inductive ZhS (K:Qa)(f:Str)(Q:VK)(x:V)(H1:Hp):Prop
 | mk (a C dx fs v:_):x=.ref a->H1 a=some (.ins C dx fs)->Cls K C->NoAttr K C f->fs.lookup f=some v->Q v H1->ZhS K f Q x H1
def tFld (K:Qa)(ta:TE)(f:Str):TE:=fun σ H Q=>ta σ H fun x H1=>ZhS K f Q x H1
inductive ZhD (K:Qa)(f:Str)(D:YA)(σ:St)(y x:V)(H2:Hp):Prop
 | mk (a C dx fs:_):x=.ref a->H2 a=some (.ins C dx fs)->Cls K C->NoAttr K C f->fs.length < 1000->D.nx σ (upd H2 a (.ins C dx (XB f y fs)))->ZhD K f D σ y x H2
def sFld (K:Qa)(ta tv:TE)(f:Str):TS:=fun D σ H=>tv σ H fun y H1=>ta σ H1 fun x H2=>ZhD K f D σ y x H2
section
variable {X:Cx}{o e value:Expr}{f:Str}{pos pos' tpos:Pos}{ta tv:TE}
theorem ZX (W:PE X e ta)(G:JR e f X.env (eval e X.env)=eval e X.env):PE X (.Attribute e f pos) (tFld X.K ta f):=by
 intro pins s σ H Q I h
 refine ZkD G (Zw (W pins s σ H _ I h) fun u s1 J=>?_)
 obtain ⟨x,H1,Z,z,a,C,dx,fs,v,ex,ea,c,n,l,q⟩:=J
 subst ex
 obtain rfl:u=Qv a:=z
 exact ZfB Z ea c n l fun u' s2 Y B=>⟨v,H1,Y,B,q⟩
theorem Ug (ha:PE X o ta)(J:PE X value tv)(hs:Sx value (some (.Attribute o f pos')) pos.line X.env=pure false):PS X (.Assign [.Attribute o f pos'] value pos) (sFld X.K ta tv f):=by
 intro pins s σ H D I h
 refine plainObj_wpAny_Assign_Attribute (Zw (J pins s σ H _ I h) fun u s1 z=>?_) hs
 obtain ⟨y,H1,Z,W,q⟩:=z
 refine Zw (ha pins s1 σ H1 _ Z q) fun B s2 z=>?_
 obtain ⟨x,H2,Y,G,a,C,dx,fs,ex,ea,c,n,l,q2⟩:=z
 subst ex
 obtain rfl:B=Qv a:=G
 exact Zgb Y ea c n l W fun s3 I3=>⟨σ,_,I3,q2⟩
end
section
variable {X:Cx}{pins:List (Addr×Obj)}{σ:St}{H:Hp}{s:Qe}{A:QD}{E:Qc->Qe->Prop}{Q:Qc->Qe->Prop}{c:Qc}{b:Bool}
inductive Wn (K:Qa)(H:Hp):V->Qc->Prop where
 | non:Wn K H .non (.type "NoneType")
 | bl (x:Bool):Wn K H (.bl x) (.type "bool")
 | int (i:Int):Wn K H (.int i) (.type "int")
 | str (x:Str):Wn K H (.str x) (.type "str")
 | flt (x:UInt64):Wn K H (.flt x) (.type "float")
 | lst {a:Addr} {xs:List V} (e:H a=some (.lst xs)):Wn K H (.ref a) (.type "list")
 | frz {a:Addr} {o:Obj} {xs:List V} (e:H a=some (.frz o (.lst xs))):Wn K H (.ref a) (.type "list")
 | tup {a:Addr} {xs:List V} (e:H a=some (.tup xs)):Wn K H (.ref a) (.type "tuple")
 | dK {a:Addr} {kvs:List (Zn×V)} (e:H a=some (.dK kvs)):Wn K H (.ref a) (.type "dict")
 | dT {a:Addr} {kvs:List (List Zn×V)} (e:H a=some (.dT kvs)):Wn K H (.ref a) (.type "dict")
 | ins {a C dx:Addr} {fs:List (Str×V)} (e:H a=some (.ins C dx fs)) (cl:Cls K C) (ha:QL K (.ref C) "__class__"=some (some (.builtin "object.__class__")))
     (hn:PySem.W.specialIn K (.builtin "object.__class__") "__get__"=some (some (.builtin "getset_descriptor.__get__"))) (htk:PySem.W.takesIn K (.builtin "object.__class__")=some true)
     (hm:PySem.W.mroIn K C (.type "object")=some true):Wn K H (.ref a) (.ref C)
theorem ZgS (I:Inv X pins σ H s)(B:RelV x u)(ty:Wn X.K H x t)(e:JC X.K t c=some b)(h:∀ tk,Q (.bool b) { s with toks:=tk }):
 Qq (Qw X.prog X.w) A (call (.builtin "isinstance") [u,c]) Q E s:=by
 cases ty with
 | non=>cases (show u=GP from B);exact QX OT I.kIn QZ e (fun z=>nomatch z) h
 | bl y=>cases (show u=Jz y from B);exact QX OU I.kIn QZ e (fun z=>nomatch z) h
 | int i=>obtain ⟨t,q⟩:=(show ∃ t,u=Po i t from B);cases q;exact QX Nw I.kIn QZ e (fun z=>nomatch z) h
 | str y=>obtain ⟨t,q⟩:=(show ∃ t,u=JH y t from B);cases q;exact QX Nx I.kIn QZ e (fun z=>nomatch z) h
 | flt y=>obtain ⟨t,q⟩:=(show ∃ t,u=RG y t from B);cases q;exact QX Os I.kIn QZ e (fun z=>nomatch z) h
 | @lst a xs ea =>
  cases (show u=Qv a from B)
  obtain ⟨_,_,n,_,h1⟩:=(show ObjOk X.prog X.w H s.heap a (.lst xs) from I.hok a _ ea)
  exact QX JZ I.kIn ⟨_,h1,rfl⟩ e (fun z=>nomatch z) h
 | @frz a ob xs ea =>
  cases (show u=Qv a from B)
  obtain ⟨_,_,_,n,_,h1⟩:=(show ObjOk X.prog X.w H s.heap a (.frz ob (.lst xs)) from I.hok a _ ea)
  exact QX JZ I.kIn ⟨_,h1,rfl⟩ e (fun z=>nomatch z) h
 | @tup a xs ea =>
  cases (show u=Qv a from B)
  obtain ⟨_,_,_,p⟩:=(show ObjOk X.prog X.w H s.heap a (.tup xs) from I.hok a _ ea)
  obtain ⟨o,h1,h2,_⟩:=p
  exact QX To I.kIn ⟨o,h1,h2⟩ e (fun z=>nomatch z) h
 | @dK a kvs ea =>
  cases (show u=Qv a from B)
  obtain ⟨_,_,vs,_,p⟩:=(show ObjOk X.prog X.w H s.heap a (.dK kvs) from I.hok a _ ea)
  obtain ⟨o,es,ep,h1,h2,_⟩:=p
  exact QX Pa I.kIn ⟨o,h1,h2.1⟩ e (fun z=>nomatch z) h
 | @dT a kvs ea =>
  cases (show u=Qv a from B)
  obtain ⟨_,_,xs,_,o,es,ep,h1,h2,_⟩:=(show ObjOk X.prog X.w H s.heap a (.dT kvs) from I.hok a _ ea)
  exact QX Pa I.kIn ⟨o,h1,h2.1⟩ e (fun z=>nomatch z) h
 | @ins a C dx fs ea cl ha hn htk hm =>
  cases (show u=Qv a from B)
  obtain ⟨mA,O,_⟩:=UF I.hok ea
  obtain ⟨G,J,_⟩:=O.look
  exact QX (Ny (cl.get _) cl.hd ha hn htk hm) I.kIn J e (fun z=>nomatch z) h
end
structure Room (k:Nat)(A:QD):Prop where
 hd:A.handled=none
 dp:A.depth+3 * k+5 < RI
 un:A.units+16 * k+200 < OV
 gd:A.guards=some []
theorem Room.mono {j k:Nat}(r:Room k A)(h:j<=k):Room j A:=⟨r.hd,by have:=r.dp;omega,by have:=r.un;omega,r.gd⟩
theorem Room.deeper {k:Nat}(r:Room (k+1) A)(env:Env):Room k (A.deeper env) :=
 ⟨r.hd,by have:=r.dp;show A.depth+1+3 * k+5 < _;omega,by have:=r.un;show A.units+3+16 * k+200 < _;omega,r.gd⟩
theorem ZfG {A:QD}{C:Addr}{us:List Qc}{z:List (Str×Qc)}:(A.under (.builtin "type.__call__" ⟨.ref C::us,z⟩)).depth=A.depth+1:=by
 first | rfl | simp [SV,Code.weight,Code.isCreation,Code.isGuard,Code.isCaller,Code.frames,OW,guardIds]
theorem ZfH {A:QD}{C:Addr}{us:List Qc}{z:List (Str×Qc)}:(A.under (.builtin "type.__call__" ⟨.ref C::us,z⟩)).units=A.units+1:=by
 first | rfl | simp [SV,Code.cUnits,Code.frames,OW]
theorem Room.make {k:Nat}(r:Room (k+1) A)(C:Addr)(us:List Qc)(z:List (Str×Qc)):Room k (A.under (.builtin "type.__call__" ⟨.ref C::us,z⟩)) :=
 ⟨r.hd,by have:=r.dp;rw [ZfG];omega,by have:=r.un;rw [ZfH];omega,by first | exact r.gd | simpa [SV,Code.isGuard,guardIds] using r.gd⟩
theorem Room.depth {k:Nat}(r:Room k A):A.depth < recursionLimit:=by have:=r.dp;omega
theorem Room.units {k:Nat}(r:Room k A):A.units+64 < cLine:=by have:=r.un;omega
def Wa:TA:=fun _ H Q=>Q [] H
def Xh (ta:TE)(tr:TA):TA:=fun σ H Q=>ta σ H fun x H1=>tr σ H1 fun xs H2=>Q (x::xs) H2
section
variable {X:Cx}{e:Expr}{es:List Expr}{te:TE}{t:TA}{pos:Pos}
theorem Za:PA X [] Wa:=fun _ _ _ _ H Q I h=>TZ ⟨[],H,I,.nil,h⟩
theorem Yq (ha:PE X e te)(G:PA X es t)(hs:QA (e::es) X.env=(false,eval e X.env)::QA es X.env:=by rfl):PA X (e::es) (Xh te t):=by
 intro pos pins s σ H Q I h
 rw [hs]
 show Qq _ _ (spliced ((false,eval e X.env)::GZ pos (QA es X.env))) _ _ s
 refine JU (Zw (ha pins s σ H _ I h) fun u s1 z=>?_)
 obtain ⟨x,H1,J,W,q1⟩:=z
 exact Zw (G pos pins s1 σ H1 _ J q1) fun us s2 ⟨xs,H2,B,Y,Z⟩=>⟨x::xs,H2,B,.cons W Y,Z⟩
def tTup (t:TA):TE:=fun σ H Q=>t σ H fun xs H1=>xs.length<=Qg/\∀ p,H1 p=none->Q (.ref p) (upd H1 p (.tup xs))
def tLst (t:TA):TE:=fun σ H Q=>t σ H fun xs H1=>xs.length<=Qg/\∀ p,H1 p=none->Q (.ref p) (upd H1 p (.lst xs))
theorem Yt {x1}(h:PA X es t):PE X (.Tuple es x1 pos) (tTup t):=by
 intro pins s σ H Q I W
 refine RY (Zw (h pos pins s σ H _ I W) fun us s1 J=>?_)
 obtain ⟨xs,H1,B,r,z,q⟩:=J
 refine ⟨by rw [<- r.length];exact z,?_⟩
 have G:H1 s1.heap.objs.size=none:=B.hok.fresh (Qf _)
 refine ⟨.ref s1.heap.objs.size,upd H1 s1.heap.objs.size (.tup xs),B.laid (t':=s1.toks) (fun b u e=>Qd _ e) (Qf _) ?_,rfl,q _ G⟩
 exact ⟨z,us,r,⟨_,Ql _ rfl,rfl,_,rfl⟩⟩
theorem ZT (h:PA X es t):PE X (.List es pos) (tLst t):=by
 intro pins s σ H Q I W
 refine wpAny_List_spliced (Zw (h pos pins s σ H _ I W) fun us s1 J=>?_)
 obtain ⟨xs,H1,B,r,z,q⟩:=J
 refine ⟨by rw [<- r.length];exact z,?_⟩
 have G:H1 s1.heap.objs.size=none:=B.hok.fresh (Qf _)
 refine ⟨.ref s1.heap.objs.size,upd H1 s1.heap.objs.size (.lst xs),B.laid (t':=s1.toks) (fun b u e=>Qd _ e) (Qf _) ?_,rfl,q _ G⟩
 exact ⟨z,us,0,r,Ql _ rfl⟩
end
abbrev Sp:=List V->Hp->VK->XK->Prop
abbrev Uy:=List Env->Hp->Qe->XK->Qc->Qe->Prop
structure Env0 (P:Qk)(w:Qs)(K:Qa)(mg:Str->Option Qc)(base:Heap)(A:QD)(outer:List Env)(s:Qe)(H:Hp):Prop where
 frames:A.frames=some outer
 mod:Mod K mg base
 bs:∀ b o,base.get? b=some o->s.heap.get? b=some o/\H b=none
 bsz:base.objs.size<=s.heap.objs.size
 funs:s.heap.FunFrames base outer
 frf:∀ b∈Vy outer,H b=none
 hok:HOk P w H s.heap
 bare:TV s.gens
def CE (outer:List Env)(P:Qk)(w:Qs)(H:Hp)(s:Qe)(Q:VK)(u:Qc)(s':Qe):Prop :=
 ∃ v H',s'.os=s.os/\TV s'.gens/\Un (Vy outer) [] H H' s.heap s'.heap/\HOk P w H' s'.heap/\RelV v u/\Q v H'
def CR (CX:Uy)(outer:List Env)(P:Qk)(w:Qs)(H:Hp)(s:Qe)(Q:VK)(E:XK)(r:Nv)(s':Qe):Prop :=
 match r with
 | .ok (.ret u)=>CE outer P w H s Q u s'
 | .ok _=>False
 | .error e=>CX outer H s E e s'
structure FnOk (P:Qk)(w:Qs)(K:Qa)(mg:Str->Option Qc)(base:Heap)(CX:Uy)(k:Nat)(f:Addr)(fd:Qm)(ps:List Str)(sp:Sp):Prop where
 len:∀ vs H Q E,sp vs H Q E->vs.length=ps.length
 run:∀ (A:QD) (outer:List Env) (s:Qe) (H:Hp) (args:Args) (us:List Qc) (vs:List V) (Q:VK) (E:XK),Room k A->Env0 P w K mg base A outer s H->RU s fd args (ps.zip us)->Vals vs us->sp vs H Q E ->
  Tc (Qw P w) A (.call (.ref f) args) (CR CX outer P w H s Q E) s
theorem FnOk.mono {P:Qk}{w:Qs}{K:Qa}{mg:Str->Option Qc}{base:Heap}{CX:Uy}{j k:Nat}{f:Addr}{fd:Qm}{ps:List Str}{sp:Sp}(F:FnOk P w K mg base CX j f fd ps sp)(h:j<=k) :
 FnOk P w K mg base CX k f fd ps sp:=⟨F.len,fun A outer s H args us vs Q E z=>F.run A outer s H args us vs Q E (z.mono h)⟩
theorem Env0.make {P:Qk}{w:Qs}{K:Qa}{mg:Str->Option Qc}{base:Heap}{A:QD}{outer:List Env}{s:Qe}{H:Hp}(e:Env0 P w K mg base A outer s H)(C:Addr)(us:List Qc)(z:List (Str×Qc)) :
 Env0 P w K mg base (A.under (.builtin "type.__call__" ⟨.ref C::us,z⟩)) outer s H:=⟨by first | exact e.frames | (simpa [SV,Code.envs,OW,pushEnvs] using e.frames),e.mod,e.bs,e.bsz,e.funs,e.frf,e.hok,e.bare⟩
section
variable {X:Cx}{pins:List (Addr×Obj)}{σ:St}{H:Hp}{s s':Qe}
theorem Inv.env0 (I:Inv X pins σ H s):Env0 X.prog X.w X.K X.mg X.base X.A X.stack s H :=
 ⟨I.ok.frames,I.ok.mod,I.bs,Qo I.ok.bsz I.sz,I.stack,I.stkFree,I.hok,I.bare⟩
theorem Inv.after (I:Inv X pins σ H s)(h:CE X.stack X.prog X.w H s Q u s'):EP X pins σ Q u s':=by
 obtain ⟨v,H',os,B,un,J,r,q⟩:=h
 obtain ⟨W,g,d,t,G⟩:=s'
 obtain rfl:G=s.os:=os
 exact ⟨v,H',I.call (h':=W) (g':=g) (d':=d) (t':=t) (ch:=[]) un J B (fun b z=>absurd z (by simp)),r,q⟩
end
def Zgr (sp:Sp)(dvs:List V)(E:XK)(t:TA):TE:=fun σ H Q=>t σ H fun vs H1=>sp (vs++dvs) H1 Q E
inductive Zff (C:Addr)(m:Str)(sp:Sp)(dvs:List V)(E:XK)(t:TA)(σ:St)(Q:VK)(x:V)(H1:Hp):Prop
 | mk (a dx fs:_):x=.ref a->H1 a=some (.ins C dx fs)->fs.lookup m=none->(t σ H1 fun vs H2=>sp (x::(vs++dvs)) H2 Q E)->Zff C m sp dvs E t σ Q x H1
def ZcX (C:Addr)(m:Str)(sp:Sp)(dvs:List V)(E:XK)(ta:TE)(t:TA):TE:=fun σ H Q=>ta σ H fun x H1=>Zff C m sp dvs E t σ Q x H1
def Zkt (C:Addr)(sp:Sp)(dvs:List V)(E:XK)(t:TA):TE:=fun σ H Q=>t σ H fun vs H1=>∀ x dx,H1 x=none->H1 dx=none->dx≠x ->
 sp (.ref x::(vs++dvs)) (upd (upd H1 dx (.own x)) x (.ins C dx [])) (fun v H2=>v=.non/\Q (.ref x) H2) E
def Binds (K:Qa)(fd:Qm)(ps:List Str)(ds:List Qc):Prop :=
 ∀ (s:Qe) (us:List Qc),K.In s.heap->(us++ds).length=ps.length->RU s fd ⟨us,[]⟩ (ps.zip (us++ds))
theorem Binds.all {K:Qa}{fd:Qm}{ps:List Str}(h:∀ us:List Qc,us.length=ps.length->bindArgs fd ⟨us,[]⟩=pure (ps.zip us)):Binds K fd ps []:=fun s us _ z=>by
 rw [List.append_nil] at z ⊢
 exact .of_eq (h us z)
def Ub (CX:Uy)(X:Cx)(E:XK):Prop:=∀(pins:List (Addr×Obj))(σ:St)(H:Hp)(s:Qe)(e:Qc)(s':Qe),Inv X pins σ H s->CX X.stack H s E e s'->X.xe e s'
section
variable {X:Cx}{CX:Uy}{k:Nat}{f C:Addr}{fd:Qm}{ps:List Str}{sp:Sp}{dvs:List V}{ds:List Qc}{E:XK}{x m:Str}{p pos apos:Pos}{e o:Expr}{es:List Expr}{ta:TE}{t:TA}
theorem ZdU {us:List Qc}(F:FnOk X.prog X.w X.K X.mg X.base CX k f fd ps sp)(Y:Room k X.A)(G:Binds X.K fd ps ds)(Z:Vals dvs ds)(J:Ub CX X E)(I:Inv X pins σ H s)(r:Vals vs us)(h:sp (vs++dvs) H Q E):Qq (Qw X.prog X.w) X.A (call (.ref f) us) (EP X pins σ Q) X.xe s:=by
 have B:Vals (vs++dvs) (us++ds):=r.append Z
 have W:(us++ds).length=ps.length:=by rw [<- B.length];exact F.len _ _ _ _ h
 refine Ot (Pb (F.run X.A X.stack s H ⟨us,[]⟩ (us++ds) (vs++dvs) Q E Y I.env0 (G s us I.kIn W) B h) fun r s' z=>?_)
 cases r with
 | error e=>exact J pins σ H s e s' I z
 | ok fl =>
  cases fl with
  | ret u=>exact I.after z
  | next=>exact Gx z
  | brk=>exact Gx z
  | cont=>exact Gx z
theorem Zlh (F:FnOk X.prog X.w X.K X.mg X.base CX k f fd ps sp)(hr:Room k X.A)(W:Gl X x)(J:X.mg x=some (.ref f))(hk:Ja X.K (.ref f)=true)(Z:Binds X.K fd ps ds)(hd:Vals dvs ds)(Y:Ub CX X E)
 (ha:PA X (e::es) t) (z:(x == ("__debug__":Str))=false:=by decide) (he:QA (e::es) X.env=(false,eval e X.env)::QA es X.env:=by rfl) (B:(GZ pos (QA es X.env)).any (·.1)=false:=by rfl) :
 PE X (.Call (.Name x p) (e::es) [] pos) (Zgr sp dvs E t):=by
 intro pins s σ H Q I h
 refine Gb (ZbK I W J ?_ z)
 refine Ou (h₀:=X.base) I.ok.mod.kin hk (Zw (ha pos pins s σ H _ I h) fun us s1 zz=>?_) he B
 obtain ⟨vs,H1,G,r,q⟩:=zz
 refine ⟨G.kIn,?_⟩
 exact ZdU F hr Z hd Y G r q
theorem Zlj (he:PE X o ta)(c:Cls X.K C)(W:Zam X.K C m f)(F:FnOk X.prog X.w X.K X.mg X.base CX k f fd ps sp)(hr:Room k X.A)(hb:Binds X.K fd ps ds)(hd:Vals dvs ds)(hx:Ub CX X E)(ha:PA X (e::es) t)(G:QA (e::es) X.env=(false,eval e X.env)::QA es X.env:=by rfl)(B:(GZ pos (QA es X.env)).any (·.1)=false:=by rfl)(ht:eval (.Call (.Attribute o m apos) (e::es) [] pos) X.env=(do
  let J <- eval o X.env
  TW apos.atName
  let (f,first) <- JL [J] (Sy J m pl)
  RJ pos f first (GZ pos (QA (e::es) X.env)) (PJ pos (Jg [] X.env))):=by rfl):
 PE X (.Call (.Attribute o m apos) (e::es) [] pos) (ZcX C m sp dvs E ta t):=by
 intro pins s σ H Q I h
 refine Rz (pl:=pl) (Zw (he pins s σ H _ I h) fun u s1 z=>?_) ht
 obtain ⟨x,H1,Z,rx,a,dx,fs,ex,ea,l,q⟩:=z
 subst ex
 obtain rfl:u=Qv a:=rx
 refine Zbb Z ea c W l ?_
 refine Ou (first:=[.ref a]) (h₀:=X.base) I.ok.mod.kin W.kp (Zw (ha pos pins s1 σ H1 _ Z q) fun us s2 z=>?_) G B
 obtain ⟨vs,H2,Y,r,q2⟩:=z
 refine ⟨Y.kIn,?_⟩
 exact ZdU (us:=.ref a::us) (vs:=.ref a::vs) F hr hb hd hx Y (.cons rfl r) q2
theorem Zja (he:PE X o ta)(c:Cls X.K C)(G:Zam X.K C m f)(F:FnOk X.prog X.w X.K X.mg X.base CX k f fd ps sp)(hr:Room k X.A)(Y:Binds X.K fd ps ds)(hd:Vals dvs ds)(W:Ub CX X E)(ht:eval (.Call (.Attribute o m apos) [] [] pos) X.env=(do
  let B <- eval o X.env
  TW apos.atName
  let (f,first) <- JL [B] (Sy B m pl)
  RJ pos f first (GZ pos (QA [] X.env)) (PJ pos (Jg [] X.env))):=by rfl):
 PE X (.Call (.Attribute o m apos) [] [] pos) (ZcX C m sp dvs E ta Wa):=by
 intro pins s σ H Q I h
 refine Rz (pl:=pl) (Zw (he pins s σ H _ I h) fun u s1 Z=>?_) ht
 obtain ⟨x,H1,z,J,a,dx,fs,ex,ea,l,q⟩:=Z
 subst ex
 obtain rfl:u=Qv a:=J
 refine Zbb z ea c G l ?_
 exact RZ (first:=[.ref a]) z.kIn G.kp (ZdU (us:=[.ref a]) (vs:=[.ref a]) F hr Y hd W z (.cons rfl .nil) q)
structure Mk (K:Qa)(C f:Addr):Prop where
 makes:Ro K C=true
 init:QL K (.ref C) "__init__"=some (some (.ref f))
 fn:OR K (.ref f)=true
 kp:Ja K (.ref C)=true
theorem ZjF {us:List Qc}(M:Mk X.K C f)(F:FnOk X.prog X.w X.K X.mg X.base CX k f fd ps sp)(hr:Room (k+1) X.A)(W:Binds X.K fd ps ds)(hd:Vals dvs ds)(Y:Ub CX X E)(I:Inv X pins σ H s)(r:Vals vs us)(h:∀ x dx,H x=none->H dx=none->dx≠x->sp (.ref x::(vs++dvs)) (upd (upd H dx (.own x)) x (.ins C dx [])) (fun v H2=>v=.non/\Q (.ref x) H2) E):
 Qq (Qw X.prog X.w) X.A (call (.ref C) us) (EP X pins σ Q) X.xe s:=by
 have J:=h (s.heap.objs.size+1) s.heap.objs.size (I.hok.fresh (JD _)) (I.hok.fresh (Qf _)) (Qt (Sz _))
 have B:=Inv.made (C:=C) I
 have G:Vals (V.ref (s.heap.objs.size+1)::(vs++dvs)) (Qv (s.heap.objs.size+1)::(us++ds)):=.cons rfl (r.append hd)
 have Z:(Qv (s.heap.objs.size+1)::us++ds).length=ps.length:=by
  have e:=G.length
  rw [F.len _ _ _ _ J] at e
  exact e.symm
 refine Ot (Ziz (f:=f) I.kIn M.makes M.init (beq_iff_eq.mp M.fn) (Pb (F.run _ X.stack _ _ ⟨Qv (s.heap.objs.size+1)::us,[]⟩ (Qv (s.heap.objs.size+1)::(us++ds)) _ _ E (hr.make C us [])
  (B.env0.make C us []) (W _ (Qv (s.heap.objs.size+1)::us) B.kIn Z) G J) fun r s' z=>?_))
 cases r with
 | error e=>exact Y pins σ _ _ e s' B z
 | ok fl =>
  cases fl with
  | ret u =>
   obtain ⟨v,H',I3,rv,ev,q3⟩:=B.after z
   subst ev
   exact ⟨rv,⟨V.ref (s.heap.objs.size+1),H',I3,rfl,q3⟩⟩
  | next=>exact Gx z
  | brk=>exact Gx z
  | cont=>exact Gx z
theorem ZiZ (M:Mk X.K C f)(F:FnOk X.prog X.w X.K X.mg X.base CX k f fd ps sp)(Y:Room (k+1) X.A)(G:Gl X x)(W:X.mg x=some (.ref C))(B:Binds X.K fd ps ds)(Z:Vals dvs ds)(J:Ub CX X E)
 (z:(x == ("__debug__":Str))=false:=by decide):PE X (.Call (.Name x p) [] [] pos) (Zkt C sp dvs E Wa):=by
 intro pins s σ H Q I h
 refine Gb (ZbK I G W ?_ z)
 exact RZ I.kIn M.kp (ZjF (us:=[]) M F Y B Z J I .nil h)
end
def PK (X:Cx)(kws:List SW)(t:TA):Prop :=
 ∀ (pos:Pos) (pins:List (Addr×Obj)) (s:Qe) (σ:St) (H:Hp) (Q:List V->Hp->Prop),Inv X pins σ H s->t σ H Q->Qq (Qw X.prog X.w) X.A (evalAll ((PJ pos (Jg kws X.env)).map (·.2))) (AP X pins σ Q) X.xe s
section
variable {X:Cx}{CX:Uy}{k:Nat}{f C:Addr}{fd:Qm}{ps ks:List Str}{sp:Sp}{E:XK}{x m:Str}{p pos apos kpos:Pos}{e o:Expr}{es:List Expr}{kws:List SW}{te ta:TE}{t tk:TA}{nm:Option Str}
theorem ZmL:PK X [] Wa:=fun _ _ _ _ H Q I h=>OX ⟨[],H,I,.nil,h⟩
theorem Zln (ha:PE X e te)(G:PK X kws t):PK X (⟨nm,e,kpos⟩::kws) (Xh te t):=by
 intro pos pins s σ H Q I h
 show Qq _ _ (evalAll ((do let v <- eval e X.env;TW pos;pure v)::(PJ pos (Jg kws X.env)).map (·.2))) _ _ s
 refine wpAny_evalAll_cons (Qb (Zw (ha pins s σ H _ I h) fun u s1 z=>?_))
 obtain ⟨x,H1,J,W,q1⟩:=z
 refine Qb (GT (Qh ?_))
 exact Zw (G pos pins s1 σ H1 _ J q1) fun us s2 ⟨xs,H2,B,Y,Z⟩=>⟨x::xs,H2,B,.cons W Y,Z⟩
variable {g:List Qc->List Qc->List Qc}{gV:List V->List V->List V}
end
structure Zo (N P:List Str)(sc:Scope):Prop where
 kind:sc.kind=.function:=by rfl
 co:sc.isCoroutine=false:=by rfl
 gen:sc.isGenerator=false:=by rfl
 nd:N.Nodup:=by decide +kernel
 pre:N.take P.length=P:=by rfl
 par:∀ x∈P,sc.names.lookup x=some .local\/sc.names.lookup x=some .cell:=by decide +kernel
 nofree:∀ y∈sc.names,y.2≠.free:=by decide +kernel
theorem Zcm {kindOf:Str->Option PL}{x:Str}:∀{binds:List (Str×Qc)}{m:Str->Option Qc},(∀ v,(x,v) ∉ binds)->NK kindOf binds m x=m x
 | [],_,_=>rfl
 | (n,v)::r,m,h=>by
  unfold NK
  rw [Zcm fun w z=>h w (mem_cons_of_mem _ z)]
  split
  ·have:x≠n:=by rintro rfl;exact h v mem_cons_self
   simp [this]
  ·rfl
theorem Zck {kindOf:Str->Option PL}{x:Str}:∀{binds:List (Str×Qc)}{m:Str->Option Qc},(∀ v,(x,v) ∉ binds)->bindC kindOf binds m x=m x
 | [],_,_=>rfl
 | (n,v)::r,m,h=>by
  unfold bindC
  rw [Zck fun w z=>h w (mem_cons_of_mem _ z)]
  split
  ·rfl
  ·have:x≠n:=by rintro rfl;exact h v mem_cons_self
   simp [this]
theorem Zcl {kindOf:Str->Option PL}{x:Str}{v:Qc}:∀{P:List Str}{vs:List Qc}{i:Nat}{m:Str->Option Qc},P.Nodup->P[i]?=some x->vs[i]?=some v->kindOf x=some .local ->
 NK kindOf (P.zip vs) m x=some v
 | [],_,_,_,_,h,_,_=>by simp at h
 | _::_,[],_,_,_,_,h,_=>by simp at h
 | p::P,w::vs,0,m,nd,h1,h2,hk=>by
  simp at h1 h2;subst h1;subst h2
  show NK kindOf ((p,w)::P.zip vs) m p=_
  unfold NK
  rw [Zcm fun v z=>(nodup_cons.mp nd).1 (of_mem_zip z).1,if_pos hk]
  simp
 | p::P,w::vs,i+1,m,nd,h1,h2,hk=>by
  show NK kindOf ((p,w)::P.zip vs) m x=_
  unfold NK
  exact Zcl (i:=i) (nodup_cons.mp nd).2 (by simpa using h1) (by simpa using h2) hk
theorem Zcj {kindOf:Str->Option PL}{x:Str}{v:Qc}:∀{P:List Str}{vs:List Qc}{i:Nat}{m:Str->Option Qc},P.Nodup->P[i]?=some x->vs[i]?=some v->kindOf x≠some .local ->
 bindC kindOf (P.zip vs) m x=some v
 | [],_,_,_,_,h,_,_=>by simp at h
 | _::_,[],_,_,_,_,h,_=>by simp at h
 | p::P,w::vs,0,m,nd,h1,h2,hk=>by
  simp at h1 h2;subst h1;subst h2
  show bindC kindOf ((p,w)::P.zip vs) m p=_
  unfold bindC
  rw [Zck fun v z=>(nodup_cons.mp nd).1 (of_mem_zip z).1,if_neg hk]
  simp
 | p::P,w::vs,i+1,m,nd,h1,h2,hk=>by
  show bindC kindOf ((p,w)::P.zip vs) m x=_
  unfold bindC
  exact Zcj (i:=i) (nodup_cons.mp nd).2 (by simpa using h1) (by simpa using h2) hk
def start (N:List Str)(vs:List V):St:=vs.map some++QE (N.length - vs.length) none
def Yz (CX:Uy)(P:Qk)(w:Qs)(K:Qa)(mg:Str->Option Qc)(base:Heap)(N:List Str)(qual:Str)(scope:Scope)(f:Addr)(cd:Qc)(A:QD)(outer:List Env)(s:Qe)(H:Hp)(E:XK):Cx where
 prog:=P
 w:=w
 K:=K
 mg:=mg
 base:=base
 A:=A.deeper (SX qual scope s.heap.objs.size f cd)
 N:=N
 s₀:=s
 H₀:=H
 env:=SX qual scope s.heap.objs.size f cd
 outer:=outer
 stack:=SX qual scope s.heap.objs.size f cd::outer
 ex:=[]
 calm:=true
 fn:=fun _=>true
 pn:=[]
 xe:=fun e s'=>Qq (Qw P w) (A.deeper (SX qual scope s.heap.objs.size f cd)) (leaving (SX qual scope s.heap.objs.size f cd) e) (fun _ s''=>CX outer H s E e s'') (fun e' s''=>CX outer H s E e' s'') s'
theorem Zdl {sc:Scope}{n:Nat}{x:Str}(h:sc.names.lookup x=some .cell):∃ c,(cellsFrom n sc.names []).lookup x=some c:=by
 have q:=SY sc.names n [] (.inl h)
 exact Sn.mp q
theorem ZgQ {CX:Uy}{P:Qk}{w:Qs}{K:Qa}{mg:Str->Option Qc}{base:Heap}{N ps:List Str}{qual:Str}{scope:Scope}{f:Addr}{J:Qc}{A:QD}{outer:List Env}{s s1:Qe}{H:Hp}{E:XK}{us:List Qc}{vs:List V}
 (S:Zo N ps scope) (hd:A.handled=none) (B:Env0 P w K mg base A outer s H) (hl:vs.length=ps.length) (r:Vals vs us)
 (x:InCallC s s.heap.objs.size (NK (SX qual scope s.heap.objs.size f J).kindOf (ps.zip us) fun _=>none) (cellsFrom (s.heap.objs.size+1) scope.names []) (bindC (SX qual scope s.heap.objs.size f J).kindOf (ps.zip us) fun _=>none) s1) :
 Inv (Yz CX P w K mg base N qual scope f J A outer s H E) [] (start N vs) H s1:=by
 have hpl:ps.length<=N.length:=by have:=congrArg Sa S.pre;rw [length_take] at this;omega
 obtain ⟨h1,tk,rfl,W⟩:=x.done
 have G:∀ b:Addr,b ∉ (Yz CX P w K mg base N qual scope f J A outer s H E).ex:=fun b z=>absurd (show b∈([]:List Addr) from z) (by simp)
 refine ⟨⟨B.mod,S.kind,rfl,rfl,Qf _,fun y z c h1 h2=>?_,fun y hy=>?_,fun y c _ h=>?_,fun _=>hd,Around.frames_deeper B.frames,.inr ⟨rfl,rfl⟩,fun b z=>absurd z (G b),B.bs,B.bsz,fun b _ _=>G b,fun b z=>absurd z (G b),B.funs,B.frf⟩,
  rfl,B.bare,Un.kept W,⟨_,x.toInCall.ns,fun i y v h1 h2 h3=>?_⟩,fun y c h=>⟨_,x.cell y c h⟩,B.hok.fresh (Qf _),fun y c h=>?_,fun p hp=>absurd (show p∈([]:List (Addr×Obj)) from hp) (by simp),B.hok.kept W,?_⟩
 ·exact name_of_addr x.apart (GW h1) (GW h2)
 ·have hy:scope.names.lookup y=some .cell\/scope.names.lookup y=some .free:=hy
  rcases hy with hy | hy
  ·exact Zdl hy
  ·exact absurd rfl (S.nofree _ (GW hy))
 ·exact JJ (x.above y c (GW h))
 ·have hi:i < vs.length:=by
   unfold start at h2
   by_cases hi:i < vs.length
   ·exact hi
   ·rw [getElem?_append_right (by simpa using hi)] at h2
    rw [List.getElem?_replicate] at h2
    split at h2<;>cases h2
  have ha:vs[i]?=some v:=by
   unfold start at h2
   rw [getElem?_append_left (by simpa using hi),getElem?_map] at h2
   cases e:vs[i]? with
   | none=>rw [e] at h2;cases h2
   | some a=>rw [e] at h2;cases h2;rfl
  obtain ⟨u,Y,Z⟩:=r.get ha
  have hp:ps[i]?=some y:=by
   rw [<- S.pre,List.getElem?_take_of_lt (by omega)];exact h1
  have I:ps.Nodup:=by rw [<- S.pre];exact S.nd.sublist (OY _ _)
  refine ⟨u,Z,?_⟩
  rcases S.par y (mem_of_getElem? hp) with k | k
  ·exact .inl ⟨k,Zcl I hp Y k⟩
  ·obtain ⟨c,e⟩:=Zdl (n:=s.heap.objs.size+1) k
   refine .inr ⟨.inl k,c,e,?_⟩
   have q:=x.cell y c e
   rw [Zcj I hp Y (by show scope.names.lookup y≠_;rw [k];decide)] at q
   exact q
 ·exact B.hok.fresh (JJ (x.above y c (GW h)))
 ·unfold start
  show _=N.length
  rw [length_append,length_map,Pi]
  omega
theorem Zkc {CX:Uy}{P:Qk}{w:Qs}{K:Qa}{mg:Str->Option Qc}{base:Heap}{k:Nat}{f:Addr}{name qual:Str}{B:Arguments}{body:List Stmt}{scope:Scope}{dV kV doc pm z ct oc:Qc}{an od:Option Addr}
 {osl:Array (Option Qc)} {N ps:List Str} {sp:Sp} (lk:K.lookup f=some ⟨oc,od,.func (Pc name qual B body scope dV kV doc pm an z ct),osl⟩) (hcd:RL K z qual=true) (S:Zo N ps scope)
 (len:∀ vs H Q E,sp vs H Q E->vs.length=ps.length)
 (Y:∀ (A:QD) (outer:List Env) (s:Qe) (H:Hp) (vs:List V) (Q:VK) (E:XK),Room k (A.deeper (SX qual scope s.heap.objs.size f z))->sp vs H Q E ->
  ∃ t,PSs (Yz CX P w K mg base N qual scope f z A outer s H E) body t/\t { nx:=fun _ H'=>Q .non H',rt:=Q } (start N vs) H) :
 FnOk P w K mg base CX (k+1) f (Pc name qual B body scope dV kV doc pm an z ct) ps sp:=by
 refine ⟨len,fun A outer s H args us vs Q E hr e0 hb r hsp=>?_⟩
 have hl:=len _ _ _ _ hsp
 have KX:K.In s.heap:=e0.mod.kin.keeps fun b o e=>(e0.bs b o e).1
 have lim:s.heap.NoLimit:=e0.mod.nolimit.keeps fun b o e=>(e0.bs b o e).1
 have Z:∀ y∈ps.zip us,scope.names.lookup y.1=some .local\/(scope.names.lookup y.1=some .cell/\((cellsFrom (s.heap.objs.size+1) scope.names []).lookup y.1).isSome=true):=fun ⟨n,v⟩ hy=>by
  rcases S.par n (of_mem_zip hy).1 with q | q
  ·exact .inl q
  ·exact .inr ⟨q,SY _ _ _ (.inl q)⟩
 refine codeAny_call_function hr.depth (KX _ _ lk) rfl S.co S.gen rfl (PySem.W.codeRec_of KX hcd) (hb _ _ _ _ ?_)
 refine Tp S.kind Z fun env he s1 x=>?_
 subst he
 refine ⟨lim.keeps x.toInCall.keep,codeAny_func ?_⟩
 obtain ⟨t,ht,hq⟩:=Y A outer s H vs Q E (hr.deeper _) hsp
 have I:Inv (Yz CX P w K mg base N qual scope f z A outer s H E) [] (start N vs) H s1:=ZgQ S hr.hd e0 hl r x
 refine GE (ht [] s1 (start N vs) H _ I hq) (fun fl s' hs=>?_) fun e s' hs=>hs
 have fin:∀ {G:St} {H':Hp} {v:V} {u:Qc},Inv (Yz CX P w K mg base N qual scope f z A outer s H E) [] G H' s'->RelV v u->Q v H'->CE outer P w H s Q u s' :=
  fun {G H' v u} J rv q=>⟨v,H',J.os,J.bare,J.base,J.hok,rv,q⟩
 cases fl with
 | ret u =>
  obtain ⟨v,G,H',J,rv,q⟩:=hs
  exact fin J rv q
 | next =>
  obtain ⟨G,H',J,q⟩:=hs
  exact fin (v:=V.non) (u:=GP) J rfl q
 | brk =>
  obtain ⟨_,_,_,q⟩:=hs
  exact Gx q
 | cont =>
  obtain ⟨_,_,_,q⟩:=hs
  exact Gx q
section
variable {X:Cx}{x:Str}{p pos:Pos}{e:Expr}{es:List Expr}{t:TA}{id T:String}{r:List V->Hp->VK->Prop}
def tCB (r:List V->Hp->VK->Prop)(t:TA):TE:=fun σ H Q=>t σ H fun vs H1=>r vs H1 Q
theorem Zu (Y:YH X (.builtin id) r)(J:Gl X x)(G:X.mg x=none)(W:JI x=some (.builtin id))(ha:PA X (e::es) t)(hn:x≠"__name__":=by decide)(B:(x == ("__debug__":Str))=false:=by decide)
 (Z:QA (e::es) X.env=(false,eval e X.env)::QA es X.env:=by rfl) (z:(GZ pos (QA es X.env)).any (·.1)=false:=by rfl):PE X (.Call (.Name x p) (e::es) [] pos) (tCB r t):=by
 intro pins s σ H Q I h
 refine Gb (Wp I J G W ?_ hn B)
 exact Nz (Zw (ha pos pins s σ H _ I h) fun us s1 ⟨vs,H1,I1,r1,q1⟩=>Y pins s1 σ H1 vs us Q I1 r1 q1) Z z
theorem ZQ (Y:YH X (.type T) r)(J:Gl X x)(G:X.mg x=none)(W:JI x=some (.type T))(ha:PA X (e::es) t)(hn:x≠"__name__":=by decide)(B:(x == ("__debug__":Str))=false:=by decide)
 (Z:QA (e::es) X.env=(false,eval e X.env)::QA es X.env:=by rfl) (z:(GZ pos (QA es X.env)).any (·.1)=false:=by rfl):PE X (.Call (.Name x p) (e::es) [] pos) (tCB r t):=by
 intro pins s σ H Q I h
 refine Gb (Wp I J G W ?_ hn B)
 exact Gh (Zw (ha pos pins s σ H _ I h) fun us s1 ⟨vs,H1,I1,r1,q1⟩=>Y pins s1 σ H1 vs us Q I1 r1 q1) Z z
end
end L2
namespace HT
open PySem PyProof.Rows
section
open PySem.SeqAt
open PySem.AutoSeq1 (wpAny_loadPart')
open PySem.MeetsSeq PySem.MeetsSeq2 PySem.MeetsSeq3
end
section
variable {prog:Qk}{w:Qs}{A:QD}{E:Qc->Qe->Prop}{s:Qe}
def sIx (n d:Nat):Option Int->Nat
 | none=>d
 | some v=>if v < 0 then (v+(n:Int)).toNat else min v.toNat n
theorem sIx_none (n d:Nat):sIx n d none=d:=rfl
theorem sIx_nat (n d k:Nat):sIx n d (some (k:Int))=min k n:=by
 show (if (k:Int) < 0 then ((k:Int)+(n:Int)).toNat else min (k:Int).toNat n)=min k n
 rw [if_neg (by omega),GM]
theorem sIx_le (n d:Nat)(B:d<=n)(o:Option Int):sIx n d o<=n:=by
 cases o with
 | none=>exact B
 | some v =>
  show (if v < 0 then (v+(n:Int)).toNat else min v.toNat n)<=n
  by_cases z:v < 0
  ·rw [if_pos z];omega
  ·rw [if_neg z];exact Nat.min_le_right _ _
theorem ZeB (v:Int)(n d:Nat):(if v < 0 then max (v+(n:Int)) 0 else min v (n:Int))=((sIx n d (some v):Nat):Int):=by
 show (if v < 0 then max (v+(n:Int)) 0 else min v (n:Int))=(((if v < 0 then (v+(n:Int)).toNat else min v.toNat n):Nat):Int)
 by_cases z:v < 0
 ·simp only [if_pos z];omega
 ·simp only [if_neg z];omega
theorem Zfu (lo hi:Option Int)(n:Nat):JN lo hi 1 (n:Int)=(((sIx n 0 lo:Nat):Int),((sIx n n hi:Nat):Int)):=by
 have h1:¬ ((1:Int) < 0):=by omega
 unfold JN
 simp only [h1,if_false]
 refine Prod.ext ?_ ?_
 ·cases lo with
  | none=>rfl
  | some v=>exact ZeB v n 0
 ·cases hi with
  | none=>rfl
  | some v=>exact ZeB v n n
theorem ZfO (i j:Nat):GH (i:Int) (j:Int) 1=j - i:=by
 unfold GH
 have h1:(1:Int) > 0:=by omega
 simp only [h1,if_true,SZ]
 split<;>omega
theorem Zbr (p:Ra v o)(h:Q o s):Qq (Qw prog w) A (NQ v) Q E s:=by
 cases p with
 | none=>exact slicePart_none h
 | int i t=>exact slicePart_int h
theorem sliceApplied_gen {J:Addr}{G I:Qc}{lo hi:Option Int}{n:Nat}{Q:Int×Int×Nat->Qe->Prop}(Z:s.heap.IsSliceOf J G I .none)(pl:Ra G lo)(Y:Ra I hi)
 (h:Q (((sIx n 0 lo:Nat):Int),1,sIx n n hi - sIx n 0 lo) s):Qq (Qw prog w) A (Tq (.ref J) (pure (n:Int))) Q E s:=by
 obtain ⟨os,z,W,B⟩:=id Z
 unfold Tq Builtin.Slice.sliceFields
 refine Qb (Qb (QN z B (x:=G) rfl (Qb (QN z B (x:=I) rfl (Qb (QN z B (x:=.none) rfl (Qh ?_)))))))
 refine Qb (slicePart_none ?_)
 show Qq _ _ (if ((1:Int) == 0)=true then _ else _) _ _ s
 rw [if_neg (by decide)]
 refine Qb (Zbr pl (Qb (Zbr Y (Qb (Qh ?_)))))
 show Qq _ _ (match JN lo hi 1 (n:Int) with | (lo,hi)=>pure (lo,(1:Int),GH lo hi 1)) _ _ s
 rw [Zfu lo hi n]
 show Qq _ _ (pure (((sIx n 0 lo:Nat):Int),(1:Int),GH ((sIx n 0 lo:Nat):Int) ((sIx n n hi:Nat):Int) 1)) _ _ s
 rw [ZfO]
 exact Qh h
theorem Zje (xs:Array Qc)(i k:Nat):((Gw k).filterMap fun (m:Nat)=>xs[((i:Int)+(m:Int) * 1).toNat]?).toArray=((xs.toList.drop i).take k).toArray:=by
 have e:(fun (m:Nat)=>xs[((i:Int)+(m:Int) * 1).toNat]?)=fun m=>xs[i+m]?:=by
  funext m
  have:((i:Int)+(m:Int) * 1).toNat=i+m:=by omega
  rw [this]
 rw [e]
 have:=pick_run xs i k
 rw [Tr] at this
 have z:((fun x=>xs[x]?) ∘ fun x=>i+x)=fun m=>xs[i+m]?:=rfl
 rw [z] at this
 rw [this]
theorem getItem_tuple_cut {t J:Addr}{items:Array Qc}{vl vu:Qc}{lo hi:Option Int}{Q:Qc->Qe->Prop}(B:OJ s.heap t items)(Z:s.heap.IsSliceOf J vl vu .none)(pl:Ra vl lo)(pu:Ra vu hi)
 (hw:¬ (sIx items.size 0 lo=0/\sIx items.size items.size hi=items.size))
 (h:Q (.ref s.heap.objs.size) { s with heap:=s.heap.push { cls:=.type "tuple",data:=.seq ((items.toList.drop (sIx items.size 0 lo)).take (sIx items.size items.size hi - sIx items.size 0 lo)).toArray } })
 (hsz:items.size<=Qg):Qq (Qw prog w) A (OZ (.ref t) (.ref J)) Q E s:=by
 have z:sizeOk (.seq ((items.toList.drop (sIx items.size 0 lo)).take (sIx items.size items.size hi - sIx items.size 0 lo)).toArray):=by
  show ((items.toList.drop (sIx items.size 0 lo)).take (sIx items.size items.size hi - sIx items.size 0 lo)).toArray.size<=Qg
  rw [size_toArray,length_take,length_drop,GA]
  omega
 have hj:sIx items.size items.size hi<=items.size:=sIx_le _ _ (Qf _) hi
 obtain ⟨os,I,G,hds⟩:=id Z
 have Y:s.TypeIs (.ref J) "slice":=⟨os,I,G⟩
 unfold OZ
 try with_reducible refine QS ?_
 first | refine Qb (Qh ?_) | skip
 refine Qb (Sb B.typeIs (by decide) ?_)
 refine Qb (QV (name:=Qn "__getitem__") B.typeIs QK
  (Go QK B.typeIs Oa ?_ (Ov _ _)))
 show Qq _ _ (Ts (.ref t) >>= _) _ _ s
 refine Qb (tupleItemsOf_ B ?_)
 refine Qb (JM Y ?_)
 rw [if_pos (by decide)]
 refine Qb (sliceApplied_gen Z pl pu ?_)
 have W:¬ ((((sIx items.size 0 lo:Nat):Int) == 0&&(1:Int) == 1&&(sIx items.size items.size hi - sIx items.size 0 lo) == items.size)=true):=by
  intro q
  rw [QI,QI] at q
  have q1:((sIx items.size 0 lo:Nat):Int)=0:=eq_of_beq q.1.1
  have q2:sIx items.size items.size hi - sIx items.size 0 lo=items.size:=eq_of_beq q.2
  exact hw ⟨by omega,by omega⟩
 show Qq _ _ (if (((sIx items.size 0 lo:Nat):Int) == 0&&(1:Int) == 1&&(sIx items.size items.size hi - sIx items.size 0 lo) == items.size)=true then _ else _) _ _ s
 rw [if_neg W,Zje]
 first
  | exact Qb (m:=GU _) (Gd (Qh ⟨_,rfl,Qh h⟩) z)
  | exact Qb (m:=GU _) (Gd (Qb (Qh (Qh ⟨_,rfl,Qh h⟩))) z)
  | exact Qb (Qb (m:=GU _) (Gd (Qh (Qh ⟨_,rfl,Qh h⟩)) z))
  | exact Qb (Qb (m:=GU _) (Gd (Qh ⟨_,rfl,Qh h⟩) z))
end
end HT
namespace L2
open PySem PySem.Spec PyProof.Rows
abbrev TO:=St->Hp->(Option Int->Hp->Prop)->Prop
def PO (X:Cx)(e:Option Expr)(t:TO):Prop :=
 ∀ (pins:List (Addr×Obj)) (s:Qe) (σ:St) (H:Hp) (Q:Option Int->Hp->Prop),Inv X pins σ H s->t σ H Q ->
  Qq (Qw X.prog X.w) X.A (evalPart e X.env) (fun u s'=>∃ o H',Inv X pins σ H' s'/\Ra u o/\Q o H') X.xe s
def VX:TO:=fun _ H Q=>Q none H
inductive Zfj (Q:Option Int->Hp->Prop)(x:V)(H1:Hp):Prop
 | mk (i:_):x=.int i->Q (some i) H1->Zfj Q x H1
def ZcY (t:TE):TO:=fun σ H Q=>t σ H fun x H1=>Zfj Q x H1
section
variable {X:Cx}{e:Expr}{te:TE}{lo hi:Option Expr}{tl th:TO}{pos p2:Pos}
theorem Yi:PO X none VX:=by
 intro pins s σ H Q I h
 rw [Og]
 exact Qh ⟨none,H,I,.none,h⟩
theorem ZR (h:PE X e te):PO X (some e) (ZcY te):=by
 intro pins s σ H Q I W
 rw [evalPart_some]
 refine Zw (h pins s σ H _ I W) fun u s1 z=>?_
 obtain ⟨x,H1,B,G,J⟩:=z
 obtain ⟨i,rfl,q⟩:=J
 obtain ⟨t,rfl⟩:=G
 exact ⟨some i,H1,B,.int i t,q⟩
def SlR (X:Cx)(r:V->Option Int->Option Int->Hp->VK->Prop):Prop :=
 ∀ (pins:List (Addr×Obj)) (s:Qe) (σ:St) (H:Hp) (x:V) (v vl vu:Qc) (lo hi:Option Int) (sl:Addr) (Q:VK),Inv X pins σ H s->RelV x v->s.heap.IsSliceOf sl vl vu .none->Ra vl lo->Ra vu hi->r x lo hi H Q ->
  ∃ T id,typeLookup (.type T) "__getitem__"=pure (some (.builtin id))/\s.TypeIs v T/\Qq (Qw X.prog X.w) X.A (OZ v (.ref sl)) (EP X pins σ Q) X.xe s
def tSl (r:V->Option Int->Option Int->Hp->VK->Prop)(te:TE)(tl th:TO):TE:=fun σ H Q=>te σ H fun x H1=>tl σ H1 fun l H2=>th σ H2 fun u H3=>r x l u H3 Q
theorem Yc (hr:SlR X r)(he:PE X e te)(hl:PO X lo tl)(hu:PO X hi th):PE X (.Subscript e (.Slice lo hi none p2) pos) (tSl r te tl th):=by
 intro pins s σ H Q I h
 refine Ow (Zw (he pins s σ H _ I h) fun v s1 B=>?_)
 obtain ⟨x,H1,I1,r1,q1⟩:=B
 refine NL (Zw (hl pins s1 σ H1 _ I1 q1) fun G s2 B=>?_)
 obtain ⟨l,H2,I2,pl,q2⟩:=B
 refine Zw (hu pins s2 σ H2 _ I2 q2) fun J z B=>?_
 obtain ⟨u,W,Z,pu,q3⟩:=B
 rw [Og]
 refine Qh ?_
 have I4:Inv X pins σ W { z with heap:=z.heap.push { cls:=.type "slice",data:=.fields #[G,J,.none] } }:=Z.kept (t':=z.toks) fun b ob q=>Qd _ q
 obtain ⟨T,id,hT,ht,Y⟩:=hr pins { z with heap:=z.heap.push { cls:=.type "slice",data:=.fields #[G,J,.none] } } σ W x v G J l u z.heap.objs.size Q I4 r1 (Tt ..) pl pu q3
 show Qq (Qw X.prog X.w) X.A (Oh e (.Slice lo hi none p2) v (.ref z.heap.objs.size)) (EP X pins σ Q) X.xe { z with heap:=z.heap.push { cls:=.type "slice",data:=.fields #[G,J,.none] } }
 exact tail_any (ops:=[.ref z.heap.objs.size,v]) ht hT Y (by with_unfolding_all rfl)
def XA (xs:List V)(lo hi:Option Int):List V:=(xs.drop (HT.sIx xs.length 0 lo)).take (HT.sIx xs.length xs.length hi - HT.sIx xs.length 0 lo)
theorem WG (xs:List V)(lo hi:Option Int):(XA xs lo hi).length<=xs.length:=by
 unfold XA
 rw [length_take,length_drop]
 omega
inductive ZhB (K:Qa)(x:V)(lo hi:Option Int)(H:Hp)(Q:VK):Prop
 | mk (a xs:_):x=.ref a->SqT K H a xs->¬ (HT.sIx xs.length 0 lo=0/\HT.sIx xs.length xs.length hi=xs.length)->(∀ p,H p=none->Q (.ref p) (upd H p (.tup (XA xs lo hi))))->ZhB K x lo hi H Q
def rSlT (K:Qa):V->Option Int->Option Int->Hp->VK->Prop:=fun x lo hi H Q=>ZhB K x lo hi H Q
theorem ZmW:SlR X (rSlT X.K):=by
 intro pins s σ H x v vl vu lo hi sl Q I W hs pl Z h
 obtain ⟨a,xs,rfl,Y,hw,q⟩:=h
 cases W
 obtain ⟨B,r,J,G⟩:=I.tuple Y
 have z:B.toArray.size=xs.length:=by rw [size_toArray];exact r.length.symm
 refine ⟨"tuple",_,QK.lookup,J.typeIs,?_⟩
 refine HT.getItem_tuple_cut J hs pl Z (by rw [z];exact hw) ?_ (by rw [z];exact G)
 rw [z]
 refine ⟨.ref s.heap.objs.size,_,I.laid (t':=s.toks) (o:=.tup (XA xs lo hi)) (fun b ob q=>Qd _ q) (Qf _) ?_,rfl,q _ (I.hok.fresh (Qf _))⟩
 exact ⟨Qo (WG xs lo hi) G,_,(r.drop (HT.sIx xs.length 0 lo)).take (HT.sIx xs.length xs.length hi - HT.sIx xs.length 0 lo),Pp _ _⟩
end
def Wo (n:Nat)(i:Int):Option Nat:=if 0<=i then (if i < n then some i.toNat else none) else if -(n:Int)<=i then some (i+n).toNat else none
def YR {α:Type}(xs:List α)(i:Int):Option α:=(Wo xs.length i).bind fun j=>xs[j]?
theorem ZbJ {n:Nat}{i:Int}{j:Nat}(h:Wo n i=some j):seqIndex? i n=some j/\j < n/\-(n:Int)<=i/\i < n:=by
 unfold Wo at h
 by_cases z:0<=i
 ·rw [if_pos z] at h
  by_cases h1:i < n
  ·rw [if_pos h1] at h
   have e:i.toNat=j:=Qu h
   exact ⟨by rw [NM z h1,e],by omega,by omega,h1⟩
  ·rw [if_neg h1] at h;cases h
 ·rw [if_neg z] at h
  by_cases h1:-(n:Int)<=i
  ·rw [if_pos h1] at h
   have e:(i+n).toNat=j:=Qu h
   exact ⟨by rw [Na (by omega) h1,e],by omega,h1,by omega⟩
  ·rw [if_neg h1] at h;cases h
theorem ZbE {z:Type}{xs:List z}{i:Int}{v:z}(h:YR xs i=some v):∃ j,seqIndex? i xs.length=some j/\xs[j]?=some v/\j < xs.length/\-(xs.length:Int)<=i/\i < xs.length:=by
 unfold YR at h
 cases e:Wo xs.length i with
 | none=>rw [e] at h;cases h
 | some j =>
  rw [e] at h
  obtain ⟨h1,h2,G,B⟩:=ZbJ e
  exact ⟨j,h1,h,h2,G,B⟩
theorem Zm {z:Type}{xs:List z}{j:Nat}{v:z}(h:xs[j]?=some v):YR xs (j:Int)=some v:=by
 have B:j < xs.length:=(Qj.mp h).1
 have e:Wo xs.length (j:Int)=some j:=by
  unfold Wo
  rw [if_pos (by omega),if_pos (by omega)];simp
 unfold YR;rw [e];exact h
theorem US {z:Type}(xs:List z)(v:z):YR (xs++[v]) (-1)=some v:=by
 have B:(xs++[v]).length=xs.length+1:=by simp
 have e:Wo (xs++[v]).length (-1)=some xs.length:=by
  unfold Wo
  rw [B,if_neg (by decide),if_pos (by omega)]
  congr 1
  omega
 unfold YR
 rw [e]
 show (xs++[v])[xs.length]?=some v
 simp
def ZkB (b:Expr):Prop:=∀ o i,subscripted b false o i=operate [o,i] (OZ o i)
def IxR (X:Cx)(r:R2):Prop :=
 ∀ (value slice:Expr) (pins:List (Addr×Obj)) (s:Qe) (σ:St) (H:Hp) (x y:V) (v u:Qc) (Q:VK),Inv X pins σ H s->RelV x v->RelV y u->r x y H Q ->
  subscripted slice false v u=operate [v,u] (OZ v u)->Qq (Qw X.prog X.w) X.A (Oh value slice v u) (EP X pins σ Q) X.xe s
def MtR (X:Cx)(id:String)(r:V->List V->Hp->VK->Prop):Prop :=
 ∀ (pins:List (Addr×Obj)) (s:Qe) (σ:St) (H:Hp) (x:V) (xs:List V) (v:Qc) (us:List Qc) (Q:VK),Inv X pins σ H s->RelV x v->Vals xs us->r x xs H Q ->
  Qq (Qw X.prog X.w) X.A (call (.builtin id) (v::us)) (EP X pins σ Q) X.xe s
section
variable {X:Cx}{a b:Expr}{ta tb:TE}{pos:Pos}
theorem Zk (W:IxR X r)(Y:PE X a ta)(z:PE X b tb)(Z:ZkB b):PE X (.Subscript a b pos) (tOp r ta tb):=by
 intro pins s σ H Q I h
 exact Ow (Zii Y z I h fun v u s2 x y H2 J B G q=>W a b pins s2 σ H2 x y v u Q J B G q (Z _ _))
inductive Zhv (K:Qa)(x y:V)(H:Hp)(Q:VK):Prop
 | mk (p xs i v:_):x=.ref p->y=.int i->SqL K H p xs->YR xs i=some v->Q v H->Zhv K x y H Q
def rIxL (K:Qa):R2:=fun x y H Q=>Zhv K x y H Q
inductive Zhx (K:Qa)(x y:V)(H:Hp)(Q:VK):Prop
 | mk (p xs i v:_):x=.ref p->y=.int i->SqT K H p xs->YR xs i=some v->Q v H->Zhx K x y H Q
def rIxT (K:Qa):R2:=fun x y H Q=>Zhx K x y H Q
inductive Zhw (x y:V)(H:Hp)(Q:VK):Prop
 | mk (z i c:_):x=.str z->y=.int i->z.length<=Qg->YR z.cps.toList i=some c->Q (.str ⟨#[c]⟩) H->Zhw x y H Q
def rIxS :R2:=fun x y H Q=>Zhw x y H Q
theorem Zt:IxR X (rIxL X.K):=by
 intro value J pins s σ H x y v u Q I rx ry h hs
 obtain ⟨p,xs,i,z,rfl,rfl,hq,he,q⟩:=h
 cases rx
 obtain ⟨t,rfl⟩:=ry
 obtain ⟨G,r,pl,hz⟩:=I.list hq
 obtain ⟨j,h1,h2,h3,h4,h5⟩:=ZbE he
 obtain ⟨w,ew,Y⟩:=r.get h2
 have hl:=r.length
 have hn:=Uf
 have B:EP X pins σ Q w s:=⟨z,H,I,Y,q⟩
 by_cases Z:0<=i
 ·have W:i.toNat=j:=by
   rw [NM Z h5] at h1
   exact Qu h1
  exact item_listR pl.isList Z (by omega) (by rw [W];simpa using ew) B hs
 ·have W:(i+(G.toArray.size:Int)).toNat=j:=by
   rw [Na (by omega) h4] at h1
   rw [size_toArray,<- hl]
   exact Qu h1
  exact Pd (x:=w) pl.isList.typeIs Sc.lookup
   (wpAny_getItem_list_neg (Q:=fun r s'=>r=w/\EP X pins σ Q r s') pl.isList (by omega) (by rw [size_toArray]<;>omega) (by omega) (by rw [W];simpa using ew) ⟨rfl,B⟩) hs
theorem ZK:IxR X (rIxT X.K):=by
 intro value G pins s σ H x y v u Q I rx ry h W
 obtain ⟨p,xs,i,z,rfl,rfl,Y,he,q⟩:=h
 cases rx
 obtain ⟨t,rfl⟩:=ry
 obtain ⟨Z,r,pl,hz⟩:=I.tuple Y
 obtain ⟨j,h1,h2,h3,h4,h5⟩:=ZbE he
 obtain ⟨w,ew,J⟩:=r.get h2
 have hl:=r.length
 have hn:=Uf
 have B:EP X pins σ Q w s:=⟨z,H,I,J,q⟩
 exact Pd (x:=w) pl.typeIs QK.lookup
  (getItem_tuple (j:=j) (Q:=fun r s'=>r=w/\EP X pins σ Q r s') pl (by omega) (by omega) (by rw [size_toArray,<- hl];exact h1) (by simpa using ew) ⟨rfl,B⟩) W
theorem WM:IxR X rIxS:=by
 intro value B pins s σ H x y v u Q I G Y h hs
 obtain ⟨z,i,c,rfl,rfl,hz,Z,q⟩:=h
 obtain ⟨t,rfl⟩:=G
 obtain ⟨t',rfl⟩:=Y
 obtain ⟨j,h1,h2,h3,h4,J⟩:=ZbE Z
 have W:z.cps.toList.length=z.length:=by simp [Str.length]
 rw [W] at h1 h4 J
 have hn:=Uf
 exact tail_any (Ox s z t) slot_str_getitem.lookup (getItem_str (c:=c) (by
  have e1:decide (i < -(2 ^ 63:Int))=false:=decide_eq_false (by omega)
  have e2:decide (i ≥ 2 ^ 63)=false:=decide_eq_false (by omega)
  rw [e1,e2,Bool.or_false]) (by rw [h1];simpa using h2) ⟨.str ⟨#[c]⟩,H,I.tok _,⟨_,rfl⟩,q⟩) hs
theorem ZfI (z:List Qc)(n j:Nat)(u:Qc):QT (·.setIfInBounds j u) { cls:=.type "list",data:=.seq z.toArray n }={ cls:=.type "list",data:=.seq (z.set j u).toArray n }:=by
 simp [QT]
theorem Inv.lst (I:Inv X pins σ H s)(h:H p=some (.lst xs)):
 ∃ (B:List Qc) (n:Nat),Vals xs B/\s.heap.get? p=some { cls:=.type "list",data:=.seq B.toArray n }/\xs.length<=sizeLine:=by
 obtain ⟨z,B,n,r,e⟩:=I.hok p _ h
 exact ⟨B,n,r,e,z⟩
theorem Inv.lstUpd {pins:List (Addr×Obj)}{σ:St}{H:Hp}{s:Qe}{p:Addr}{xs ys:List V}{z its':List Qc}{n B:Nat}{f:Obj->Obj}(I:Inv X pins σ H s)(h:H p=some (.lst xs))
 (Y:s.heap.get? p=some { cls:=.type "list",data:=.seq z.toArray n }) (G:f { cls:=.type "list",data:=.seq z.toArray n }={ cls:=.type "list",data:=.seq its'.toArray B }) (r:Vals ys its') (J:ys.length<=Qg) (t:Nat) :
 Inv X pins σ (upd H p (.lst ys)) { s with heap:=s.heap.update p f,toks:=t }:=by
 have e:(s.heap.update p f).get? p=some { cls:=.type "list",data:=.seq its'.toArray B }:=by
  rw [RA f Y (by rw [G]<;>rfl),G]
 refine I.write (x:=p) (e:=p) (by rw [h];trivial) (.inl rfl) (fun b u W q=>(Rb _ _ (JK W)).trans q) ⟨_,e⟩ ?_
 exact ⟨J,its',B,r,e⟩
inductive ZeY (o i v:V)(H:Hp)(Q:(Hp->Prop)):Prop
 | mk (p xs k j:_):o=.ref p->i=.int k->H p=some (.lst xs)->Wo xs.length k=some j->Q (upd H p (.lst (xs.set j v)))->ZeY o i v H Q
def ZnH :V->V->V->Hp->(Hp->Prop)->Prop:=fun o i v H Q=>ZeY o i v H Q
theorem Vm:PSet X ZnH:=by
 intro pins s σ H o i v ov iv u Q I ro ri rv h
 obtain ⟨p,xs,k,j,rfl,rfl,hp,hj,q⟩:=h
 cases ro
 obtain ⟨t,rfl⟩:=ri
 obtain ⟨z,n,r,B,hz⟩:=I.lst hp
 obtain ⟨h1,h2,h3,h4⟩:=ZbJ hj
 have G:=r.length
 have hn:=Uf
 have Z:Inv X pins σ (upd H p (.lst (xs.set j v))) { s with heap:=s.heap.update p (QT (·.setIfInBounds j u)) } :=
  I.lstUpd hp B (ZfI z n j u) (r.set rv j) (by rw [length_set];exact hz) s.toks
 by_cases Y:0<=k
 ·have J:k.toNat=j:=by
   rw [NM Y h4] at h1
   exact Qu h1
  exact PySem.W.ki_setAt B Y (by omega) (by rw [size_toArray,<- G];exact h4) (by rw [J];exact ⟨_,Z,q⟩)
 ·have J:(k+(z.toArray.size:Int)).toNat=j:=by
   rw [Na (by omega) h3] at h1
   rw [size_toArray,<- G]
   exact Qu h1
  exact PySem.W.ki_setBack B (by omega) (by rw [size_toArray,<- G];exact h3) (by omega) (by rw [J];exact ⟨_,Z,q⟩)
theorem VG (lo hi:Option Int)(n:Nat):(Gm lo hi none n).1=((HT.sIx n 0 lo:Nat):Int)/\(Gm lo hi none n).2.1=((HT.sIx n n hi:Nat):Int)/\(Gm lo hi none n).2.2=1:=by
 refine ⟨?_,?_,rfl⟩
 ·cases lo with
  | none=>simp [Gm,HT.sIx]
  | some i =>
   simp only [Gm,HT.sIx,NA,show (1:Int) > 0 by decide,if_true]
   by_cases h:i < 0
   ·simp only [h,if_true]<;>omega
   ·simp only [h,if_false]<;>omega
 ·cases hi with
  | none=>simp [Gm,HT.sIx]
  | some i =>
   simp only [Gm,HT.sIx,NA,show (1:Int) > 0 by decide,if_true]
   by_cases h:i < 0
   ·simp only [h,if_true]<;>omega
   ·simp only [h,if_false]<;>omega
theorem ZcN (z:List Qc)(lo hi:Option Int):NB z.toArray lo hi none=((z.drop (HT.sIx z.length 0 lo)).take (HT.sIx z.length z.length hi - HT.sIx z.length 0 lo)).toArray:=by
 obtain ⟨h1,h2,B⟩:=VG lo hi z.toArray.size
 unfold NB
 rw [h1,h2,B]
 simp only [sliceRange_one,pick_run,size_toArray]<;>rfl
inductive ZhA (K:Qa)(x:V)(lo hi:Option Int)(H:Hp)(Q:VK):Prop
 | mk (a xs:_):x=.ref a->SqL K H a xs->(∀ p,H p=none->Q (.ref p) (upd H p (.lst (XA xs lo hi))))->ZhA K x lo hi H Q
def ZfZ (K:Qa):V->Option Int->Option Int->Hp->VK->Prop:=fun x lo hi H Q=>ZhA K x lo hi H Q
theorem YB:SlR X (ZfZ X.K):=by
 intro pins s σ H x v vl vu lo hi sl Q I W hs pl Z h
 obtain ⟨a,xs,rfl,Y,q⟩:=h
 cases W
 obtain ⟨J,r,B,G⟩:=I.list Y
 have z:=r.length
 refine ⟨"list",_,Sc.lookup,B.isList.typeIs,?_⟩
 refine So B.isList hs pl Z .none (by simp) ?_ (by rw [size_toArray]<;>omega)
 rw [ZcN,<- z]
 refine ⟨.ref s.heap.objs.size,_,I.laid (t':=s.toks) (o:=.lst (XA xs lo hi)) (fun b ob q=>Qd _ q) (Qf _) ?_,rfl,q _ (I.hok.fresh (Qf _))⟩
 exact ⟨Qo (WG xs lo hi) G,_,0,(r.drop (HT.sIx xs.length 0 lo)).take (HT.sIx xs.length xs.length hi - HT.sIx xs.length 0 lo),Ql _ rfl⟩
def WT:V->Bool
 | .non=>true
 | .bl _=>true
 | .int _=>true
 | .str _=>true
 | _=>false
def eqV:V->V->Bool
 | .non,.non=>true
 | .bl a,.bl b=>a == b
 | .bl a,.int b=>(if a then 1 else 0) == b
 | .int a,.bl b=>a == (if b then 1 else 0)
 | .int a,.int b=>a == b
 | .str a,.str b=>a == b
 | _,_=>false
theorem Zmb (B:RelV y u)(z:RelV x v)(I:WT y=true)(G:WT x=true):SeqAt.EqAt A s u v (eqV y x):=by
 cases y with
 | non =>
  cases B
  cases x with
  | non=>cases z;exact SeqAt.EqAt.same _
  | bl b=>cases z;exact SeqAt.EqAt.none_bool b
  | int b=>obtain ⟨t,rfl⟩:=z;exact SeqAt.EqAt.none_int b t
  | str b=>obtain ⟨t,rfl⟩:=z;exact SeqAt.EqAt.none_str b t
  | _=>exact absurd (show false=true from G) Qp
 | bl a =>
  cases B
  cases x with
  | non=>cases z;exact SeqAt.EqAt.bool_none a
  | bl b=>cases z;exact SeqAt.EqAt.bool_bool a b
  | int b=>obtain ⟨t,rfl⟩:=z;exact SeqAt.EqAt.bool_int a b t
  | str b=>obtain ⟨t,rfl⟩:=z;exact SeqAt.EqAt.bool_str a b t
  | _=>exact absurd (show false=true from G) Qp
 | int a =>
  obtain ⟨t',rfl⟩:=B
  cases x with
  | non=>cases z;exact SeqAt.EqAt.int_none a t'
  | bl b=>cases z;exact SeqAt.EqAt.int_bool a t' b
  | int b=>obtain ⟨t,rfl⟩:=z;exact SeqAt.EqAt.int_int a t' b t
  | str b=>obtain ⟨t,rfl⟩:=z;exact On a t' b t
  | _=>exact absurd (show false=true from G) Qp
 | str a =>
  obtain ⟨t',rfl⟩:=B
  cases x with
  | non=>cases z;exact SeqAt.EqAt.str_none a t'
  | bl b=>cases z;exact SeqAt.EqAt.str_bool a t' b
  | int b=>obtain ⟨t,rfl⟩:=z;exact Oo a t' b t
  | str b=>obtain ⟨t,rfl⟩:=z;exact SeqAt.EqAt.str_str a t' b t
  | _=>exact absurd (show false=true from G) Qp
 | _=>exact absurd (show false=true from I) Qp
def eqU (x:V)(u:Qc):Bool:=match u with
 | .none=>eqV .non x
 | .bool b=>eqV (.bl b) x
 | .int i _=>eqV (.int i) x
 | .str z _=>eqV (.str z) x
 | _=>false
theorem ZgH (r:RelV y u)(f:WT y=true):eqU x u=eqV y x:=by
 cases y with
 | non=>cases r;rfl
 | bl b=>cases r;rfl
 | int i=>obtain ⟨t,rfl⟩:=r;rfl
 | str z=>obtain ⟨t,rfl⟩:=r;rfl
 | _=>exact absurd (show false=true from f) Qp
theorem ZbD :∀{xs:List V}{us:List Qc},Vals xs us->xs.all WT=true->us.any (eqU x)=xs.any fun y=>eqV y x
 | _,_,.nil,_=>rfl
 | y::xs,u::us,.cons r t,f=>by
  rw [all_cons,QI] at f
  rw [any_cons,any_cons,ZgH r f.1,ZbD t f.2]
theorem ZaA (B:RelV x v)(z:WT x=true):∀{xs:List V}{us:List Qc},Vals xs us->xs.all WT=true->∀ u∈us,SeqAt.EqAt A s u v (eqU x u)
 | _,_,.nil,_=>fun u hu=>by cases hu
 | y::xs,u::us,.cons r t,f=>fun G hu=>by
  rw [all_cons,QI] at f
  rcases mem_cons.mp hu with rfl | hu
  ·rw [ZgH r f.1];exact Zmb r B f.1 z
  ·exact ZaA B z t f.2 G hu
def inV (x:V)(xs:List V):Bool:=xs.any fun y=>eqV y x
inductive Zko (K:Qa)(neg:Bool)(x y:V)(H:Hp)(Q:VK):Prop
 | mk (p xs:_):y=.ref p->(SqL K H p xs\/SqT K H p xs)->WT x=true->xs.all WT=true->(Q (.bl (if neg then !inV x xs else inV x xs)) H)->Zko K neg x y H Q
def rIn (K:Qa)(neg:Bool):R2:=fun x y H Q=>Zko K neg x y H Q
theorem ZdK:YW X (Ge .NotIn) (rIn X.K true):=by
 intro pins s σ H x y v u Q I G Y h
 obtain ⟨p,xs,rfl,hq,J,fs,q⟩:=h
 cases Y
 rcases hq with hq | hq
 ·obtain ⟨z,r,pl,W⟩:=I.list hq
  refine SeqAt.notIn_listAt (eqU x) pl.isList (fun w B=>ZaA G J r fs w (by simpa using B)) ⟨.bl _,H,I,rfl,?_⟩
  rw [show z.toArray.any (eqU x)=z.any (eqU x) by simp,ZbD r fs]
  exact q
 ·obtain ⟨z,r,pl,W⟩:=I.tuple hq
  refine SeqAt.notIn_tupleAt (eqU x) pl (fun w B=>ZaA G J r fs w (by simpa using B)) ⟨.bl _,H,I,rfl,?_⟩
  rw [show z.toArray.any (eqU x)=z.any (eqU x) by simp,ZbD r fs]
  exact q
theorem ZH:YH X (.builtin "len") (fun xs H Q=>∃ p ys,xs=[.ref p]/\(SqL X.K H p ys\/SqT X.K H p ys)/\Q (.int ys.length) H):=by
 intro pins s σ H xs us Q I r h
 obtain ⟨p,ys,rfl,hq,q⟩:=h
 obtain ⟨u,rfl,W⟩:=YQ r
 cases W
 have Y:=Uf
 rcases hq with hq | hq
 ·obtain ⟨B,G,pl,J⟩:=I.list hq
  have z:=G.length
  exact RX pl.isList (by simp only [size_toArray]<;>omega) ⟨.int ys.length,H,I.tok _,⟨s.toks+1,by rw [size_toArray,z]⟩,q⟩
 ·obtain ⟨B,G,pl,J⟩:=I.tuple hq
  have z:=G.length
  exact len_tuple pl (by simp only [size_toArray]<;>omega) ⟨.int ys.length,H,I.tok _,⟨s.toks+1,by rw [size_toArray,z]⟩,q⟩
theorem Xj:YH X (.type "list") (fun xs H Q=>∃ p ys,xs=[.ref p]/\(SqL X.K H p ys\/SqT X.K H p ys)/\∀ l,H l=none->Q (.ref l) (upd H l (.lst ys))):=by
 intro pins s σ H xs us Q I r h
 obtain ⟨p,ys,rfl,hq,q⟩:=h
 obtain ⟨u,rfl,rx⟩:=YQ r
 cases rx
 have J:∀ (z:List Qc),Vals ys z->ys.length<=Qg->∀ (h':Heap) (G:Nat),(∀ b o',s.heap.get? b=some o'->h'.get? b=some o') ->
     h'.get? s.heap.objs.size=some { cls:=.type "list",dict:=none,data:=.seq z.toArray G,slots:=#[] }->EP X pins σ Q (.ref s.heap.objs.size) { s with heap:=h' }:=fun z B W h' G kp e =>
   ⟨.ref s.heap.objs.size,_,I.laid (t':=s.toks) kp (Qf _) (show ObjOk X.prog X.w _ h' _ (.lst ys) from ⟨W,z,G,B,e⟩),rfl,q _ (I.hok.fresh (Qf _))⟩
 rcases hq with hq | hq
 · obtain ⟨z,B,pl,W⟩:=I.list hq
   have Y:=B.length
   obtain ⟨o,Z,hc,n,hd⟩:=pl.isList
   exact call_list_seq p (.inl rfl) Z hc hd (fun h' G kp e=>J z B W h' G kp e) (by simp only [size_toArray]<;>omega)
 · obtain ⟨z,B,pl,W⟩:=I.tuple hq
   have Y:=B.length
   obtain ⟨o,Z,hc,n,hd⟩:=pl
   exact call_list_seq p (.inr rfl) Z hc hd (fun h' G kp e=>J z B W h' G kp e) (by simp only [size_toArray]<;>omega)
theorem Xx:YH X (.type "tuple") (fun xs H Q=>∃ p ys,xs=[.ref p]/\((SqL X.K H p ys/\∀ l,H l=none->Q (.ref l) (upd H l (.tup ys)))\/(SqT X.K H p ys/\Q (.ref p) H))):=by
 intro pins s σ H xs us Q I r h
 obtain ⟨p,ys,rfl,h⟩:=h
 obtain ⟨u,rfl,Z⟩:=YQ r
 cases Z
 rcases h with ⟨G,q⟩ | ⟨G,q⟩
 ·obtain ⟨z,B,pl,J⟩:=I.list G
  have Y:=B.length
  refine NR pl.isList (fun h' kp=>?_) (by simp only [size_toArray]<;>omega)
  have W:Inv X pins σ H { s with heap:=h' }:=I.kept (t':=s.toks) kp
  have I2:Inv X pins σ (upd H h'.objs.size (.tup ys)) { s with heap:=h'.push { cls:=.type "tuple",data:=.seq z.toArray } } :=
   W.laid (t':=s.toks) (fun b o e=>Qd _ e) (Qf _) (show ObjOk X.prog X.w _ _ _ (.tup ys) from ⟨J,z,B,Pp _ _⟩)
  exact ⟨.ref h'.objs.size,_,I2,rfl,q _ (W.hok.fresh (Qf _))⟩
 ·obtain ⟨z,B,pl,J⟩:=I.tuple G
  exact call_tuple_same pl ⟨.ref p,H,I,rfl,q⟩
def tyV (K:Qa)(T:String)(x:V)(H:Hp):Prop:=match x with
 | .str _=>T="str"
 | .int _=>T="int"
 | .ref p=>(T="list"/\∃ xs,SqL K H p xs)\/(T="tuple"/\∃ o,K.lookup p=some o/\o.cls=.type "tuple"/\o.dict=none) \/
     (T="dict"/\((∃ kvs,H p=some (.dK kvs))\/∃ kvs,H p=some (.dT kvs)))\/(T="set"/\∃ S n,H p=some (.set S n))
 | _=>False
theorem Zic (I:Inv X pins σ H s)(r:RelV x v)(ty:tyV X.K T x H):
 s.TypeIs v T/\∀ a,v=.ref a->∃ W,s.heap.get? a=some W/\W.dict=none:=by
 cases x with
 | str z =>
  obtain ⟨t,rfl⟩:=r
  cases (show T="str" from ty)
  exact ⟨Ox s z t,fun _ e=>nomatch e⟩
 | int i =>
  obtain ⟨t,rfl⟩:=r
  cases (show T="int" from ty)
  exact ⟨typeIs_int s i t,fun _ e=>nomatch e⟩
 | ref p =>
  cases r
  rcases ty with ⟨rfl,xs,hq⟩ | ⟨rfl,o,B,Z,J⟩ | ⟨rfl,B⟩ | ⟨rfl,S,n,B⟩
  ·obtain ⟨Y,_,pl,_⟩:=I.list hq
   refine ⟨pl.isList.typeIs,fun a e=>?_⟩
   cases e
   obtain ⟨o,n,e,c,J,_⟩:=pl
   exact ⟨o,e,J⟩
  ·refine ⟨⟨o,I.kIn p o B,Z⟩,fun a e=>?_⟩
   cases e
   exact ⟨o,I.kIn _ o B,J⟩
  ·have z:∃ o,s.heap.get? p=some o/\o.ExactDict:=by
    rcases B with ⟨kvs,B⟩ | ⟨kvs,B⟩
    ·obtain ⟨_,_,_,_,o,_,_,e,ex,_⟩:=I.hok p _ B
     exact ⟨o,e,ex⟩
    ·obtain ⟨_,_,_,_,o,_,_,e,ex,_⟩:=I.hok p _ B
     exact ⟨o,e,ex⟩
   obtain ⟨o,e,ex⟩:=z
   refine ⟨⟨o,e,ex.1⟩,fun a G=>?_⟩
   cases G
   exact ⟨o,e,ex.2.1⟩
  ·obtain ⟨o,_,_,_,e,ex,_⟩:=I.hok p _ B
   refine ⟨⟨o,e,ex.1⟩,fun a G=>?_⟩
   cases G
   exact ⟨o,e,ex.2.1⟩
 | _=>exact Gx ty
def tBM0 (K:Qa)(T:String)(r:V->List V->Hp->VK->Prop)(to:TE):TE:=fun σ H Q=>to σ H fun x H1=>tyV K T x H1/\r x [] H1 Q
def tBM (K:Qa)(T:String)(r:V->List V->Hp->VK->Prop)(to:TE)(t:TA):TE:=fun σ H Q=>to σ H fun x H1=>tyV K T x H1/\t σ H1 fun xs H2=>r x xs H2 Q
variable {o e:Expr}{es:List Expr}{to:TE}{t:TA}{name:Str}{apos cpos:Pos}{T id:String}{r:V->List V->Hp->VK->Prop}
theorem ZmI (pa:PlainAttrs T)(G:Slot T name id)(J:typeOf (.builtin id)=pure (.type "method_descriptor"))(Z:MtR X id r)(ho:PE X o to)
 (B:JR o name X.env (eval o X.env)=eval o X.env:=by rfl) (z:(apos.endLine == cpos.line)=true:=by rfl):PE X (.Call (.Attribute o name apos) [] [] cpos) (tBM0 X.K T r to):=by
 intro pins s σ H Q I h
 refine wpAny_Call_method0_late B z (Zw (ho pins s σ H _ I h) fun v s1 zz=>?_)
 obtain ⟨x,H1,W,Y,ty,q1⟩:=zz
 obtain ⟨h1,h2⟩:=Zic W Y ty
 exact ⟨T,id,pa,G,J,h1,h2,Ji rfl (PySem.evalArgs_none (Z pins s1 σ H1 x [] v [] Q W Y .nil q1))⟩
theorem Xs (pa:PlainAttrs T)(W:Slot T name id)(Y:typeOf (.builtin id)=pure (.type "method_descriptor"))(hm:MtR X id r)(ho:PE X o to)(ha:PA X (e::es) t)
 (B:JR o name X.env (eval o X.env)=eval o X.env:=by rfl)
 (J:((GZ cpos (QA (e::es) X.env)).all (fun x=>!x.1)&&(PJ cpos (Jg [] X.env)).all (fun x=>x.1.isSome)
  && decide ((e::es).length+([]:List SW).length+(if ([]:List SW).isEmpty then 0 else 1) < 30))=true:=by rfl)
 (G:(apos.endLine == cpos.line)=true:=by rfl) (hs:QA (e::es) X.env=(false,eval e X.env)::QA es X.env:=by rfl) (z:(GZ cpos (QA es X.env)).any (·.1)=false:=by rfl) :
 PE X (.Call (.Attribute o name apos) (e::es) [] cpos) (tBM X.K T r to t):=by
 intro pins s σ H Q I h
 refine wpAny_Call_method_late B J G rfl (Zw (ho pins s σ H _ I h) fun v s1 zz=>?_)
 obtain ⟨x,H1,I1,r1,ty,q1⟩:=zz
 obtain ⟨h1,h2⟩:=Zic I1 r1 ty
 refine ⟨T,id,pa,W,Y,h1,h2,?_⟩
 have Z:=ha cpos pins s1 σ H1 _ I1 q1
 rw [hs] at Z ⊢
 refine Ji (by show (false || (GZ cpos (QA es X.env)).any (·.1))=false;rw [z]<;>rfl) (PM ?_)
 exact Zw Z fun us s2 ⟨vs,H2,I2,r2,q2⟩=>hm pins s2 σ H2 x vs v us Q I2 r1 r2 q2
end
def MtM (X:Cx)(id:String)(r:V->List V->Hp->VK->Prop):Prop :=
 ∀ (pins:List (Addr×Obj)) (s:Qe) (σ:St) (H:Hp) (x:V) (xs:List V) (v:Qc) (us:List Qc) (Q:VK),Inv X pins σ H s->RelV x v->Vals xs us->r x xs H Q ->
  Qq (Qw X.prog X.w) X.A (call (.builtin id) (v::us)) (EP X pins σ Q) X.xe s
theorem Vals.one:∀{x:V}{us:List Qc},Vals [x] us->∃ u,us=[u]/\RelV x u
 | _,_,.cons r .nil=>⟨_,rfl,r⟩
theorem Vals.reverse (h:Vals xs us):Vals xs.reverse us.reverse:=by
 induction h with
 | nil=>exact .nil
 | cons r t ih=>rw [reverse_cons,reverse_cons];exact Vals.append ih (.cons r .nil)
theorem Vals.rep (h:Vals xs us):∀ k:Nat,Vals (QE k xs).flatten (QE k us).flatten
 | 0=>.nil
 | k+1=>by
  rw [GX,GX,Pe,Pe]
  exact Vals.append h (Vals.rep h k)
theorem Zcs (z:List Qc):∀(k:Nat)(B:List Qc),
 Oy (fun G I=>G++I) B.toArray (QE k z.toArray)=(B++(QE k z).flatten).toArray
 | 0,B=>by simp
 | k + 1,B=>by
  have e:B.toArray++z.toArray=(B++z).toArray:=by simp
  have J:(B++z)++(QE k z).flatten=B++(QE (k+1) z).flatten:=by
   rw [GX,Pe,Jx]
  rw [<- J,<- Zcs z k (B++z),<- e,GX,Rp]
section
variable {X:Cx}{pins:List (Addr×Obj)}{σ:St}{H:Hp}{s:Qe}{l b:Addr}{xs ys zs:List V}
theorem Inv.lset {z its':List Qc}{n:Nat}{f:Array Qc->Array Qc}{t':Nat}(I:Inv X pins σ H s)(Z:H l=some (.lst xs))
 (e:s.heap.get? l=some { cls:=.type "list",data:=.seq z.toArray n }) (B:f z.toArray=its'.toArray) (W:Vals ys its') (G:ys.length<=Qg) :
 Inv X pins σ (upd H l (.lst ys)) { s with heap:=s.heap.update l (QT f),toks:=t' }:=by
 have q:=PySem.IsL.update e f
 rw [B] at q
 refine I.write (x:=l) (e:=l) (by rw [Z];exact trivial) (.inl rfl) (fun b' u J Y=>(Rb s.heap (QT f) (JK J)).trans Y) ⟨_,q⟩ ?_
 exact ⟨G,its',_,W,q⟩
theorem Inv.lnew {t':Nat}(I:Inv X pins σ H s)(G:Vals ys z)(B:ys.length<=Qg):
 Inv X pins σ (upd H s.heap.objs.size (.lst ys)) { s with heap:=s.heap.push { cls:=.type "list",data:=.seq z.toArray },toks:=t' } :=
 I.laid (fun _ _ q=>Qd _ q) (Qf _) ⟨B,z,0,G,Ql _ rfl⟩
theorem Inv.fresh (I:Inv X pins σ H s):H s.heap.objs.size=none:=I.hok.fresh (Qf _)
theorem Inv.lstM (I:Inv X pins σ H s)(G:H l=some (.lst xs)):xs.length<=Qg/\∃ (B:List Qc) (n:Nat),Vals xs B/\xs.length=B.length/\s.heap.get? l=some { cls:=.type "list",data:=.seq B.toArray n }:=by
 obtain ⟨z,B,n,r,e⟩:=I.hok l _ G
 exact ⟨z,B,n,r,r.length,e⟩
theorem ZdI {n:Nat}(h:n<=Qg):Gs n=false:=by
 unfold Gs
 exact decide_eq_false (by omega)
end
section
variable {X:Cx}
inductive Zcx (x:V)(vs:List V)(H:Hp)(Q:VK):Prop
 | mk (l xs y:_):x=.ref l->vs=[y]->H l=some (.lst xs)->xs.length < Qg->Q .non (upd H l (.lst (xs++[y])))->Zcx x vs H Q
def Zlr :V->List V->Hp->VK->Prop:=fun x vs H Q=>Zcx x vs H Q
theorem YS:MtM X "list.append" Zlr:=by
 intro pins s σ H x vs v us Q I J Y h
 obtain ⟨l,xs,y,rfl,rfl,G,Z,q⟩:=h
 cases J
 obtain ⟨u,rfl,W⟩:=Y.one
 obtain ⟨z,B,n,r,hl,e⟩:=I.lstM G
 refine Tu F.slot_list_append ⟨_,e,rfl⟩ F.entry_list_append (F.args_list_append_2 _ _) (PySem.list_append l B.toArray n u (by rw [size_toArray];omega)) ⟨e,?_⟩
 refine ⟨.non,_,I.lset (its':=B++[u]) G e (by simp) (r.append (.cons W .nil)) ?_,rfl,q⟩
 rw [length_append,List.length_singleton]
 omega
inductive Zcy (x:V)(vs:List V)(H:Hp)(Q:VK):Prop
 | mk (l b xs zs:_):x=.ref l->vs=[.ref b]->H l=some (.lst xs)->H b=some (.lst zs)->xs.length+zs.length<=Qg->Q .non (upd H l (.lst (xs++zs)))->Zcy x vs H Q
def Zls :V->List V->Hp->VK->Prop:=fun x vs H Q=>Zcy x vs H Q
theorem Zhe:MtM X "list.extend" Zls:=by
 intro pins s σ H x vs v us Q I Z rv h
 obtain ⟨l,b,xs,zs,rfl,rfl,W,Y,hz,q⟩:=h
 cases Z
 obtain ⟨u,rfl,ru⟩:=rv.one
 cases ru
 obtain ⟨z,G,n,r,hl,e⟩:=I.lstM W
 obtain ⟨z2,B,n2,r2,hl2,e2⟩:=I.lstM Y
 have hsz:G.toArray.size+B.toArray.size<=sizeLine:=by rw [size_toArray,size_toArray];omega
 have J:¬ (!G.toArray.isEmpty&&Gs (G.toArray.size+B.toArray.size))=true:=by
  rw [ZdI hsz,Bool.and_false]
  exact Qp
 refine Tu F.slot_list_extend ⟨_,e,rfl⟩ F.entry_list_extend (F.args_list_extend_2 _ _)
  (AutoSeq1.list_extend_list_list_0 l G.toArray n b B.toArray n2 J (by rw [size_toArray];omega) (by omega)) ⟨e,e2,?_⟩
 refine ⟨.non,_,I.lset (its':=G++B) W e (by simp) (r.append r2) ?_,rfl,q⟩
 rw [length_append]
 omega
inductive Zhs (x y:V)(H:Hp)(Q:VK):Prop
 | mk (l b xs zs:_):x=.ref l->y=.ref b->H l=some (.lst xs)->H b=some (.lst zs)->xs.length+zs.length<=Qg->(∀ p,H p=none->Q (.ref p) (upd H p (.lst (xs++zs))))->Zhs x y H Q
def rCat :R2:=fun x y H Q=>Zhs x y H Q
theorem XT:YW X (JQ .Add) rCat:=by
 intro pins s σ H x y v u Q I W Z h
 obtain ⟨l,b,xs,zs,rfl,rfl,hH,Y,hz,q⟩:=h
 cases W
 cases Z
 obtain ⟨z,G,n,r,hl,e⟩:=I.lstM hH
 obtain ⟨z2,B,n2,r2,J,e2⟩:=I.lstM Y
 refine PySem.P.add_list e e2 ?_ (by rw [size_toArray,size_toArray];omega)
 have ea:G.toArray++B.toArray=(G++B).toArray:=by simp
 rw [ea]
 exact ⟨.ref _,_,I.lnew (t':=s.toks) (r.append r2) (by rw [length_append];omega),rfl,q _ I.fresh⟩
inductive Zhy (x y:V)(H:Hp)(Q:VK):Prop
 | mk (l k xs:_):x=.ref l->y=.int k->H l=some (.lst xs)->-(2 ^ 63)<=k->k < 2 ^ 63->xs.length * k.toNat<=Qg->(∀ p,H p=none->Q (.ref p) (upd H p (.lst (QE k.toNat xs).flatten)))->Zhy x y H Q
def rRep :R2:=fun x y H Q=>Zhy x y H Q
theorem ZkL {z:Type}(xs:List z)(k:Nat):(QE k xs).flatten.length=k * xs.length:=by
 induction k with
 | zero=>simp
 | succ k ih=>rw [GX,Pe,length_append,ih,Nat.succ_mul,Nat.add_comm]
theorem ZmH:YW X (JQ .Mult) rRep:=by
 intro pins s σ H x y v u Q I rx ry h
 obtain ⟨l,k,xs,rfl,rfl,hH,h1,h2,hz,q⟩:=h
 cases rx
 obtain ⟨t,rfl⟩:=ry
 obtain ⟨z,B,n,r,hl,e⟩:=I.lstM hH
 have Z:B.toArray.size * k.toNat<=sizeLine:=by rw [size_toArray,<- hl];exact hz
 have Y:¬ B.toArray.size * k.toNat > (2 ^ 63 - 1) / 8:=by
  have:(Qg:Nat)<=(2 ^ 63 - 1) / 8:=by decide
  omega
 have W:¬ (!Builtin.List.listFitsIndex k)=true:=by
  rw [fitsIndex_both h1 h2]
  exact Qp
 have G:¬ Gs (B.toArray.size * k.toNat)=true:=by
  rw [ZdI Z]
  exact Qp
 have J:Oy (fun x1 x2=>x1++x2) #[] (QE (if B.toArray.isEmpty=true then 0 else k.toNat) B.toArray)=(QE k.toNat B).flatten.toArray:=by
  have f0:∀ m:Nat,Oy (fun x1 x2=>x1++x2) #[] (QE m B.toArray)=(QE m B).flatten.toArray:=fun m=>by
   have:=Zcs B m []
   rw [List.nil_append] at this
   exact this
  rw [f0]
  cases B with
  | nil=>simp
  | cons a r'=>rw [if_neg (by simp)]
 refine wpAny_binaryOp_repeat_ref (T:="list") (U:="int") (by decide) ⟨_,e,rfl⟩ (fun s'=>typeIs_int s' k t) noFill_list_mul F.fills_int_mul NT repeat_list F.slot_int_index.lookup
  (Tu NT (typeIs_int s k t) F.entry_int_rmul (F.args_int_rmul_2 _ _) (int___rmul___int_list k t l B.toArray n)
   ⟨e,rfl,⟨_,e,rfl⟩,Tu F.slot_list_mul ⟨_,e,rfl⟩ F.entry_list_mul (F.args_list_mul_2 _ _) (AutoListH.list___mul___list_int_3 l B.toArray n k t W Y G) ⟨e,?_⟩⟩)
 rw [J]
 exact ⟨.ref _,_,I.lnew (t':=s.toks) (r.rep k.toNat) (by rw [ZkL,Nat.mul_comm];exact hz),rfl,q _ I.fresh⟩
end
section
variable {prog:Qk}{w:Qs}{A:QD}{E:Qc->Qe->Prop}{s:Qe}
end
section
variable {X:Cx}
end
end L2
namespace Att
open PySem PySem.W PySem.Calls PyProof.Rows
theorem Zbd :∀(z:List Int)(vs:List Qc),WellAll P h vs (z.map WData.int)->Ma vs z:=by
 intro z
 induction z with
 | nil =>
  intro vs w
  rw [Nb] at w
  cases w
  exact .nil
 | cons n z ih =>
  intro vs w
  rw [map_cons] at w
  cases w with
  | cons a b =>
   cases a
   exact .cons _ _ (ih _ b)
theorem ZhE {l:OpenLaw}{n:Nat}(hn:l.most=some n){P:Params}{h:Heap}{args:List WData}{G:List Qc}
 (B:l.row.toRowW.claim.pre args=true) (Z:WellAll P h G args) :
 ∃ a vs z,G=[Qv a]/\args=[WData.list (z.map WData.int)]/\h.get? a=some { cls:=.type "list",data:=.seq vs.toArray }/\Ma vs z/\z.length<=n:=by
 have Y:WShape.hasAll [] args [.list .int]=true:=(pre_splitW B).1
 have hc:l.pre.holds [] { args:=args }=true:=(pre_splitW B).2
 obtain ⟨d,r,rfl,h1,h2⟩:=hasAllW_cons Y
 obtain rfl:=hasAllW_nil h2
 obtain ⟨xs,rfl,h3⟩:=hasW_list h1
 obtain ⟨z,rfl⟩:=items_int h3
 have I:z.length<=n:=by
  unfold OpenLaw.pre at hc
  have W:(WTm.not (.lt (.lit (.int (n:Int))) (.len (.arg 0)))).holds [] { args:=[.list (z.map .int)] }=true:=by
   have W:=(holds_andW hc).1
   rw [hn] at W
   exact W
  have J:=condW_of W (w_not (w_lt w_lit (w_len_list (w_arg rfl))))
  rw [length_map] at J
  refine Nat.le_of_not_lt fun q=>?_
  have q':(n:Int) < ((z.length:Nat):Int):=by omega
  first
   | (rw [decide_eq_true q'] at J;exact absurd J (by decide))
   | (simp at J;omega)
 cases Z with
 | cons w1 w2 =>
  cases w2
  cases w1 with
  | list ho hall=>exact ⟨_,_,z,rfl,rfl,ho,Zbd z _ hall,I⟩
theorem Zhr (l:OpenLaw)(args:List WData):l.row.toRowW.claim.post args (.bool true) args=true :=
 postW_of (r:=l.row.toRowW) (X:=(true == true))
  (show WShape.has [] (.bool true) .bool=true by first | rfl | decide | simp [WShape.has,WShape.arms,WShape.armsAll])
  (show (WTm.eq .res (.lit (.bool true))).value [] { args:=args,res:=some (.bool true),after:=args }=some (.bool (true == true)) from w_eq_bool (w_res rfl) w_lit) rfl
theorem attach_call {l:OpenLaw}{n:Nat}{q:Qk}{I:List Str}{XP:(Str->Option Qc)->Heap->Prop}{YP:Qs->Heap->Prop}{d:DefRec}
 (hn:l.most=some n) (hdf:d.params.defaults=[])
 (call:∀ (w:Qs) (B z:Qe) (mg mb:Str->Option Qc) (fa:Addr) (o:Obj) (pm cd W:Qc) (a:Addr) (vs:List Qc) (ns:List Int),
  Ground q I [] XP w B mg mb z.heap->YP w z.heap ->
  z.heap.get? fa=some o->o.data=.func (docDef d.name d.params d.body d.scope pm cd W)->z.heap.CodeRec cd d.name->mg d.name=some (.ref fa) ->
  z.heap.get? a=some { cls:=.type "list",data:=.seq vs.toArray }->Ma vs ns->ns.length<=n->z.gens=#[] ->
  Tc (Qw l.prog w) RV (.call (.ref fa) ⟨[.ref a],[]⟩) (fun r s'=>r=.ok (.ret (.bool true))/\OldK z.heap s'.heap/\s'.os=z.os/\TV s'.gens) z) :
 WalkO q I XP YP l.row.toRowW d [] (fun f vs=>PySem.call f vs):=by
 intro w B z mg mb G Y fa o pm cd W dV kV ho hd hcd hD hmg hg args vals as Z hlay hrd hwl hlo
 obtain rfl:dV=.none:=Dflts.none hD hdf
 obtain rfl:kV=.none:=Dflts.noKw hD
 obtain ⟨a,vs,ns,rfl,rfl,hobj,J,hlen⟩:=ZhE hn Z hwl
 refine enter_call (Pb (call w B z mg mb fa o pm cd W a vs ns G Y ho (fd_plain hd) hcd hmg hobj J hlen hg) fun r s' hq=>?_)
 obtain ⟨rfl,h2,h3,h4⟩:=hq
 exact ⟨.inl ⟨.bool true,.bool true,[],rfl,fun _=>rfl,.bool true,Zhr l _,fun _=>⟨List.Pairwise.nil,fun _ hm=>(nomatch hm)⟩⟩,h2,h3,h4⟩
section
variable {prog:Qk}{w:Qs}{A:QD}{E:Qc->Qe->Prop}{s:Qe}{K:Frag}
end
end Att
namespace L2
open PySem PySem.Spec PyProof.Rows
theorem ZcH:∀{vs:List Qc}{z:List Int},Ma vs z->Vals (z.map V.int) vs
 | _,_,.nil=>.nil
 | _,_,.cons n t h=>.cons ⟨t,rfl⟩ (ZcH h)
def ZV (s:Stmt)(j:Nat):Stmt:=match s with
 | .ClassDef _ _ _ body _ _ _ _ _ _ _=>body.getD j (.Pass ⟨0,0,0,0⟩)
 | _=>.Pass ⟨0,0,0,0⟩
def VN (s:Stmt):Arguments:=match s with
 | .FunctionDef _ a _ _ _ _ _ _ _ _=>a
 | _=>{ posonlyargs:=[],args:=[],vararg:=none,kwonlyargs:=[],kw_defaults:=[],kwarg:=none,defaults:=[] }
def Wd (s:Stmt):List Stmt:=match s with
 | .FunctionDef _ _ b _ _ _ _ _ _ _=>b
 | _=>[]
def Zi (s:Stmt):Scope:=match s with
 | .FunctionDef _ _ _ _ _ _ sc _ _ _=>sc
 | _=>{ kind:=.function,names:=[],isGenerator:=false,isCoroutine:=false }
abbrev ZI:Uy:=fun _ _ _ _ _ _=>False
abbrev E0:XK:=fun _ _ _=>False
theorem ZcQ :Ub ZI X E0:=fun _ _ _ _ _ _ _ h=>h.elim
structure Fun (K:Qa)(x qual:Str)(st:Stmt)(f:Addr)(fd:Qm):Prop where
 ex:∃ (oc:Qc) (od:Option Addr) (kV doc pm:Qc) (an:Option Addr) (cdv ct:Qc) (osl:Array (Option Qc)),
  fd=Pc x qual (VN st) (Wd st) (Zi st) .none kV doc pm an cdv ct/\K.lookup f=some ⟨oc,od,.func fd,osl⟩/\RL K cdv qual=true
 kp:Ja K (.ref f)=true
section
variable {P:Qk}{w:Qs}{K:Qa}{mg:Str->Option Qc}{base:Heap}
theorem Fun.ok {x qual:Str}{st:Stmt}{f:Addr}{fd:Qm}{N ps:List Str}{k:Nat}{sp:Sp}(F:Fun K x qual st f fd)(S:Zo N ps (Zi st)) 
 (B:∀ (z:Qc) (A:QD) (outer:List Env) (s:Qe) (H:Hp) (vs:List V) (Q:VK) (E:XK),Room k (A.deeper (SX qual (Zi st) s.heap.objs.size f z))->sp vs H Q E ->
  ∃ t,PSs (Yz ZI P w K mg base N qual (Zi st) f z A outer s H E).nox (Wd st) t/\t { nx:=fun _ H'=>Q .non H',rt:=Q } (start N vs) H) (len:∀ vs H Q E,sp vs H Q E->vs.length=ps.length:=by intro _ _ _ _ h;first | (cases h;subst_vars;rfl) | (repeat (first | exact congrArg Sa h.1 | (obtain ⟨_,h⟩:=h)))):FnOk P w K mg base ZI (k+1) f fd ps sp:=by
 obtain ⟨Z,od,kV,J,pm,an,z,ct,W,rfl,lk,G⟩:=F.ex
 refine Zkc lk G S len fun A outer s H vs Q E Y I=>?_
 obtain ⟨t,h,q⟩:=B z A outer s H vs Q E Y I
 exact ⟨t,h.nox,q⟩
theorem Fun.binds {x qual:Str}{st:Stmt}{f:Addr}{fd:Qm}{ps:List Str}(F:Fun K x qual st f fd)
 (h:∀ (kV B I:Qc) (G:Option Addr) (z J:Qc) (us:List Qc),us.length=ps.length->bindArgs (Pc x qual (VN st) (Wd st) (Zi st) .none kV B I G z J) ⟨us,[]⟩=pure (ps.zip us)):Binds K fd ps []:=by
 obtain ⟨Z,od,kV,B,I,G,z,J,W,rfl,lk,Y⟩:=F.ex
 exact .all (h kV B I G z J)
end
theorem VQ {k:Nat}(z:Room k A):A.units+1 < cLine:=QW (GY (by decide:1<=64) _) z.units
theorem ZhI {n:Nat}(h:n<=1000):n < sizeLine:=QW h (by decide)
section
variable {X:Cx}
theorem pv (i:Nat)(I:X.N[i]?=some x:=by rfl)(B:Vis X.env.scope x:=by first | exact Qy rfl | exact Pr (Qy rfl) | exact Pr (Pr rfl))(G:(x == ("__debug__":Str))=false:=by decide)(z:(x == ("__classdict__":Str))=false:=by decide):PE X (.Name x pos) (ZaH i):=ZmJ I B G z
end
theorem Zz {A B:Prop}(h:B):if false=true then A else B:=by
 rw [if_neg Qp]
 exact h
theorem ZF {A B:Prop}(h:A):if true=true then A else B:=by
 rw [if_pos rfl]
 exact h
theorem Xk {c A B:Prop}[Decidable c](h1:c->A)(h2:¬ c->B):if c then A else B:=by
 by_cases h:c
 ·rw [if_pos h]
  exact h1 h
 ·rw [if_neg h]
  exact h2 h
def Same (H H':Hp):Prop:=∀ b o,H b=some o->H' b=some o
theorem Same.refl (H:Hp):Same H H:=fun _ _ h=>h
theorem Same.trans (a:Same H H1)(b:Same H1 H2):Same H H2:=fun c o h=>b c o (a c o h)
section
variable {κ:Type}[DecidableEq κ]
def ZN (kvs:List (κ×V))(k:κ):Option V:=(kvs.find? fun kv=>decide (kv.1=k)).map (·.2)
def YJ (kvs:List (κ×V))(k:κ)(v:V):List (κ×V) :=
 if (kvs.any fun kv=>decide (kv.1=k))=true then kvs.map (fun kv=>if kv.1=k then (kv.1,v) else kv) else kvs++[(k,v)]
def UX (kvs:List (κ×V))(k:κ):List (κ×V):=kvs.filter fun kv=>decide (kv.1≠k)
theorem YL {p:κ×V}{r:List (κ×V)}{k:κ}(e:p.1=k):ZN (p::r) k=some p.2:=by simp [ZN,find?_cons,e]
theorem YK {p:κ×V}{r:List (κ×V)}{k:κ}(e:¬ p.1=k):ZN (p::r) k=ZN r k:=by simp [ZN,find?_cons,e]
theorem Vq (k:κ):∀ kvs:List (κ×V),(kvs.any fun z=>decide (z.1=k))=(ZN kvs k).isSome
 | []=>rfl
 | p::r=>by
  rw [any_cons]
  by_cases e:p.1=k
  ·simp only [YL e,decide_eq_true e,Bool.true_or,Option.isSome_some]
  ·rw [YK e,decide_eq_false e,Bool.false_or];exact Vq k r
theorem Zer (k j:κ)(y:V):∀ kvs:List (κ×V),ZN (kvs.map fun B=>if B.1=k then (B.1,y) else B) j=(ZN kvs j).map fun x=>if j=k then y else x
 | []=>rfl
 | p :: r=>by
  have G:=Zer k j y r
  rw [map_cons]
  by_cases h:p.1=k
  ·rw [if_pos h]
   by_cases e:p.1=j
   ·rw [YL (p:=(p.1,y)) e,YL e,GK,if_pos (e.symm.trans h)]
   ·rw [YK (p:=(p.1,y)) e,YK e,G]
  ·rw [if_neg h]
   by_cases e:p.1=j
   ·rw [YL (p:=p) e,YL e,GK,if_neg (fun z=>h (e.trans z))]
   ·rw [YK (p:=p) e,YK e,G]
theorem ZcG (k j:κ)(y:V):∀ kvs:List (κ×V),ZN kvs k=none->ZN (kvs++[(k,y)]) j=if j=k then some y else ZN kvs j
 | [],_=>by
  by_cases e:k=j
  ·rw [if_pos e.symm];exact YL (p:=(k,y)) e
  ·rw [if_neg (fun z=>e z.symm)];exact YK (p:=(k,y)) e
 | p::r,hn=>by
  rw [NC]
  have B:¬ p.1=k:=fun z=>by rw [YL z] at hn;cases hn
  rw [YK B] at hn
  have G:=ZcG k j y r hn
  by_cases e:p.1=j
  ·rw [YL e,YL e,if_neg (fun z=>B (e.trans z))]
  ·rw [YK e,YK e,G]
theorem Uj (kvs:List (κ×V))(k j:κ)(y:V):ZN (YJ kvs k y) j=if j=k then some y else ZN kvs j:=by
 unfold YJ
 by_cases a:(kvs.any fun z=>decide (z.1=k))=true
 ·rw [if_pos a,Zer]
  rw [Vq] at a
  by_cases e:j=k
  ·obtain ⟨x,B⟩:=Sn.mp a
   rw [if_pos e,e,B,GK,if_pos rfl]
  ·rw [if_neg e]
   cases ZN kvs j with
   | none=>rfl
   | some x=>rw [GK,if_neg e]
 ·rw [if_neg a]
  refine ZcG k j y kvs ?_
  rw [Vq] at a
  cases q:ZN kvs k with
  | none=>rfl
  | some x=>rw [q] at a;exact (a rfl).elim
theorem XR (kvs:List (κ×V))(k:κ)(v:V):(YJ kvs k v).length<=kvs.length+1:=by
 unfold YJ
 split
 ·rw [length_map];omega
 ·rw [length_append,length_cons,Rm];omega
theorem RelO.isSome_eq (r:RelO o u):o.isSome=u.isSome:=by
 cases o with
 | none=>cases u with
  | none=>rfl
  | some _=>exact (show False from r).elim
 | some _=>cases u with
  | none=>exact (show False from r).elim
  | some _=>rfl
theorem RelO.getD (r:RelO o u)(rd:RelV d d'):RelV (o.getD d) (u.getD d'):=by
 cases o with
 | none=>cases u with
  | none=>exact rd
  | some _=>exact (show False from r).elim
 | some _=>cases u with
  | none=>exact (show False from r).elim
  | some _=>exact r
theorem KV.val (r:KV kvs vs)(k:κ):RelO (ZN kvs k) (Rc vs k):=by
 unfold KV at r
 induction r with
 | nil=>exact QZ
 | @cons p q ps qs h t ih =>
  obtain ⟨h1,h2⟩:=h
  by_cases e:p.1=k
  ·have B:q.1=k:=h1.symm.trans e
   have b:Rc (q::qs) k=some q.2:=by simp [Rc,find?_cons,B]
   rw [YL e,b];exact h2
  ·have B:¬ q.1=k:=fun z=>e (h1.trans z)
   have b:Rc (q::qs) k=Rc qs k:=by simp [Rc,find?_cons,B]
   rw [YK e,b];exact ih
theorem KV.any (r:KV kvs vs)(k:κ):(kvs.any fun z=>decide (z.1=k))=vs.any fun z=>decide (z.1=k):=by
 unfold KV at r
 induction r with
 | nil=>rfl
 | cons h t ih=>rw [any_cons,any_cons,ih,h.1]
theorem KV.repl (r:KV kvs vs)(k:κ)(G:RelV y u):
 KV (kvs.map fun B=>if B.1=k then (B.1,y) else B) (vs.map fun B=>if B.1=k then (B.1,u) else B):=by
 unfold KV at r ⊢
 induction r with
 | nil=>exact .nil
 | @cons p q ps qs h t ih =>
  rw [map_cons,map_cons]
  refine .cons ?_ ih
  obtain ⟨h1,h2⟩:=h
  by_cases e:p.1=k
  ·rw [if_pos e,if_pos (h1.symm.trans e)];exact ⟨h1,G⟩
  ·rw [if_neg e,if_neg (fun z=>e (h1.trans z))];exact ⟨h1,h2⟩
theorem KV.put (r:KV kvs vs)(k:κ)(z:RelV y u):KV (YJ kvs k y) (stored vs k u):=by
 unfold YJ stored
 rw [r.any k]
 by_cases e:(vs.any fun B=>decide (B.1=k))=true
 ·rw [if_pos e,if_pos e];exact r.repl k z
 ·rw [if_neg e,if_neg e];exact Paired.snoc r ⟨rfl,z⟩
theorem KV.drop (r:KV kvs vs)(k:κ):KV (UX kvs k) (without vs k):=by
 unfold KV at r ⊢
 unfold UX without
 induction r with
 | nil=>exact .nil
 | @cons p q ps qs h t ih =>
  obtain ⟨h1,h2⟩:=h
  rw [Ps,Ps]
  by_cases e:p.1=k
  ·have a:¬ decide (p.1≠k)=true:=by simp [e]
   have b:¬ decide (q.1≠k)=true:=by simp [h1.symm.trans e]
   rw [if_neg a,if_neg b];exact ih
  ·have B:¬ q.1=k:=fun z=>e (h1.trans z)
   have a:decide (p.1≠k)=true:=by simp [e]
   have b:decide (q.1≠k)=true:=by simp [B]
   rw [if_pos a,if_pos b];exact .cons ⟨h1,h2⟩ ih
theorem KV.length (r:KV kvs vs):kvs.length=vs.length:=Pw r
theorem Zim (kvs:List (κ×V))(k:κ):(UX kvs k).length<=kvs.length:=Pj _ _
end
theorem Va (r:RelV (kV k) u):(ZL P w).is k u=true:=by
 cases k with
 | inl i=>obtain ⟨t,e⟩:=(show ∃ t,u=Po i t from r);subst e;exact Zev P w i t
 | inr x=>obtain ⟨t,e⟩:=(show ∃ t,u=JH x t from r);subst e;exact Zag P w x t
theorem Zct :∀{ks:List Zn}{us:List Qc},Vals (ks.map kV) us->ItemsAre (ZL P w) ks us
 | [],_,r=>by rw [Nb] at r;cases r;exact .nil
 | k::ks,_,r=>by
  rw [map_cons] at r
  cases r with
  | cons h t=>exact .cons (Va h) (Zct t)
abbrev KT (H:Hp):List (List Zn×V)->List (List Zn×Addr×Qc)->Prop:=Sk fun p q=>p.1=q.1/\H q.2.1=some (.tup (p.1.map kV))/\RelV p.2 q.2.2
theorem KT.val (r:KT H kvs xs)(k:List Zn):RelO (ZN kvs k) ((atKey xs k).map (·.2)):=by
 induction r with
 | nil=>exact QZ
 | @cons p q ps qs h t ih =>
  obtain ⟨h1,_,h2⟩:=h
  by_cases e:p.1=k
  ·have B:q.1=k:=h1.symm.trans e
   have b:atKey (q::qs) k=some q.2:=by simp [atKey,find?_cons,B]
   rw [YL e,b];exact h2
  ·have B:¬ q.1=k:=fun z=>e (h1.trans z)
   have b:atKey (q::qs) k=atKey qs k:=by simp [atKey,find?_cons,B]
   rw [YK e,b];exact ih
theorem KT.repl (r:KT H kvs xs)(k:List Zn)(G:RelV y u):
 KT H (kvs.map fun B=>if B.1=k then (B.1,y) else B) (xs.map (putAt k u)):=by
 induction r with
 | nil=>exact .nil
 | @cons p q ps qs h t ih =>
  rw [map_cons,map_cons]
  refine .cons ?_ ih
  obtain ⟨h1,h2,I⟩:=h
  unfold putAt
  by_cases e:p.1=k
  ·rw [if_pos e,if_pos (h1.symm.trans e)];exact ⟨h1,h2,G⟩
  ·rw [if_neg e,if_neg (fun z=>e (h1.trans z))];exact ⟨h1,h2,I⟩
theorem KT.put (r:KT H kvs xs)(k:List Zn)(G:H b=some (.tup (k.map kV)))(z:RelV y u):
 KT H (YJ kvs k y) (storedH xs k b u):=by
 have e:(kvs.any fun B=>decide (B.1=k))=(atKey xs k).isSome:=by
  rw [Vq,(r.val k).isSome_eq,Nc]
 unfold YJ storedH
 rw [e]
 by_cases q:(atKey xs k).isSome=true
 ·rw [if_pos q,if_pos q];exact r.repl k z
 ·rw [if_neg q,if_neg q];exact Paired.snoc r ⟨rfl,G,z⟩
theorem KT.keeps (r:KT H kvs xs)(B:∀ b ys,H b=some (.tup ys)->H' b=some (.tup ys)):KT H' kvs xs :=
 Sk.mapP r fun _ _ z=>⟨z.1,B _ _ z.2.1,z.2.2⟩
section
variable {P:Qk}{w:Qs}{H:Hp}{h:Heap}{a:Addr}
theorem Zkq (ok:HOk P w H h)(e:Rd H a u):ObjOk P w H h a u:=e.ok ok
theorem ZcO (ok:HOk P w H h)(e:Rd H a (.dK kvs)):kvs.length<=Qg/\(a == GQ)=false/\∃ vs,KV kvs vs/\h.DictOf (ZL P w) a vs :=
 show ObjOk P w H h a (.dK kvs) from Zkq ok e
theorem VO (ok:HOk P w H h)(e:H a=some (.dK kvs)):kvs.length<=Qg/\(a == GQ)=false/\∃ vs,KV kvs vs/\h.DictOf (ZL P w) a vs:=ZcO ok (.inl e)
theorem Zbf (ok:HOk P w H h)(e:H a=some (.tup (ks.map kV))):(Sv (ZL P w)).is h ks a:=by
 obtain ⟨_,z,r,o,h1,h2,n,B⟩:=(show ObjOk P w H h a (.tup (ks.map kV)) from ok a _ e)
 exact ⟨o,z.toArray,n,h1,h2,B,by simpa using Zct r⟩
theorem ZcP (ok:HOk P w H h)(e:Rd H a (.dT kvs)):kvs.length<=Qg/\(a == GQ)=false /\
 ∃ xs,KT H kvs xs/\h.DictOfH (Sv (ZL P w)) a xs:=by
 obtain ⟨z,y,xs,r,o,es,ep,h1,h2,I,G,B⟩:=(show ObjOk P w H h a (.dT kvs) from Zkq ok e)
 refine ⟨z,y,xs,r,o,es,ep,h1,h2,I,G,fun x hx=>?_,B⟩
 have all:∀ {l:List (List Zn×V)} {m:List (List Zn×Addr×Qc)},KT H l m->∀ x∈m,(Sv (ZL P w)).is h x.1 x.2.1:=by
  intro l m q
  induction q with
  | nil=>intro x hx;exact nomatch hx
  | @cons p q ps qs hq t ih =>
   intro x hx
   rcases mem_cons.mp hx with e | hx
   ·subst e
    exact Zbf ok (by rw [<- hq.1];exact hq.2.1)
   ·exact ih x hx
 exact all r x hx
theorem Zns (ok:HOk P w H h)(e:H a=some (.dT kvs)):kvs.length<=Qg/\(a == GQ)=false /\
 ∃ xs,KT H kvs xs/\h.DictOfH (Sv (ZL P w)) a xs:=ZcP ok (.inl e)
end
def DGet (H:Hp)(a:Addr)(y:V)(r:Option V):Prop :=
 (∃ kvs k,Rd H a (.dK kvs)/\y=kV k/\r=ZN kvs k)\/∃ kvs k b,Rd H a (.dT kvs)/\y=.ref b/\H b=some (.tup (k.map kV))/\r=ZN kvs k
def DPut (H:Hp)(a:Addr)(y v:V)(H':Hp):Prop :=
 (∃ kvs k,H a=some (.dK kvs)/\y=kV k/\kvs.length < Qg/\H'=upd H a (.dK (YJ kvs k v))) \/
 ∃ kvs k b,H a=some (.dT kvs)/\y=.ref b/\H b=some (.tup (k.map kV))/\kvs.length < Qg/\H'=upd H a (.dT (YJ kvs k v))
theorem DGet.k {H:Hp}{a:Addr}{kvs:List (Zn×V)}{k:Zn}(e:H a=some (.dK kvs)):DGet H a (kV k) (ZN kvs k):=.inl ⟨kvs,k,.inl e,rfl,rfl⟩
theorem DPut.k {H:Hp}{a:Addr}{kvs:List (Zn×V)}{k:Zn}{v:V}(e:H a=some (.dK kvs))(z:kvs.length < Qg):DPut H a (kV k) v (upd H a (.dK (YJ kvs k v))):=.inl ⟨kvs,k,e,rfl,z,rfl⟩
section
variable {X:Cx}{pins:List (Addr×Obj)}{σ:St}{H:Hp}{s:Qe}{a:Addr}{y v:V}{u r:Qc}{o:Option V}{A:QD}{E:Qc->Qe->Prop}
theorem Inv.big (I:Inv X pins σ H s):GQ < s.heap.objs.size:=by
 have h:Qr < s.heap.objs.size:=(I.mod.glob.keeps I.bk).lt
 exact Nat.lt_trans (by decide) h
theorem ZkF (Z:A.units+1 < OV)(I:Inv X pins σ H s)(g:DGet H a y o)(W:RelV y u)(h:∀ s',Inv X pins σ H s'->Q (.bool (!o.isSome)) s'):
 Qq (Qw X.prog X.w) A (Ge .NotIn u (.ref a)) Q E s:=by
 rcases g with ⟨kvs,k,e,J,l⟩ | ⟨kvs,k,b,e,J,Y,l⟩
 ·subst J
  obtain ⟨z,G,vs,B,dd⟩:=ZcO I.hok e
  refine wpAny_notIn_of (Va W) G dd.mapOf ?_
  rw [<- (B.val k).isSome_eq,<- l]
  exact h _ (I.tok _)
 ·subst J
  cases (show u=Qv b from W)
  obtain ⟨z,G,xs,B,dd⟩:=ZcP I.hok e
  refine wpAny_notIn_heap (Tv Z) (Zbf I.hok Y) G dd ?_
  have q:=(B.val k).isSome_eq
  rw [Nc] at q
  rw [<- q,<- l]
  exact h _ (I.tok _)
theorem VM {t':Nat}(I:Inv X pins σ H s)(J:Mut (H a))(Y:Tb a s.heap h')(W:∃ q,h'.get? a=some q)(new:ObjOk X.prog X.w (upd H a B) h' a B):
 Inv X pins σ (upd H a B) { s with heap:=h',toks:=t' } :=
 I.write (x:=a) (e:=a) J (.inl rfl) (fun b q G z=>(Y.2 b G).trans z) W new
theorem Zds (z:kvs.length<=Qg)(G:(a == GQ)=false)(B:KV kvs vs)(dd:h'.DictOf (ZL P w) a vs):
 ObjOk P w H' h' a (.dK kvs):=⟨z,G,vs,B,dd⟩
theorem ZgE (hu:A.units+1 < OV)(I:Inv X pins σ H s)(g:DPut H a y v H')(ry:RelV y u)(rv:RelV v r)(h:∀ s',Inv X pins σ H' s'->Q () s'):
 Qq (Qw X.prog X.w) A (ON (.ref a) u r) Q E s:=by
 rcases g with ⟨kvs,k,e,Y,l,Z⟩ | ⟨kvs,k,b,e,Y,eb,l,Z⟩
 ·subst Y Z
  obtain ⟨z,hd,vs,B,dd⟩:=VO I.hok e
  have hz:vs.length<=sizeLine:=by rw [<- B.length];exact z
  have hl:(YJ kvs k v).length<=sizeLine:=by have:=XR kvs k v;omega
  refine wpAny_setItem_pairs (hsz:=hz) (Va ry) dd fun h' G W=>h _ ?_
  have he:∃ q,h'.get? a=some q:=let ⟨q,_,_,J,_⟩:=G;⟨q,J⟩
  exact VM I (by rw [e];exact QZ) W he (Zds hl hd (B.put k rv) G)
 ·subst Y Z
  cases (show u=Qv b from ry)
  obtain ⟨z,hd,xs,B,dd⟩:=Zns I.hok e
  have hz:xs.length<=sizeLine:=by rw [<- Pw B];exact z
  have hl:(YJ kvs k v).length<=sizeLine:=by have:=XR kvs k v;omega
  refine wpAny_setItem_heap (hsz:=hz) (Tv hu) (Zbf I.hok eb) dd fun h' G W=>h _ ?_
  obtain ⟨q,es,ep,J,h2,h3,h4,_,h5⟩:=G
  refine VM I (by rw [e];exact QZ) W ⟨q,J⟩ ⟨hl,hd,_,(B.put k eb rv).keeps fun c ys ec=>?_,q,es,ep,J,h2,h3,h4,h5⟩
  rw [Zj (Zbj ec e (fun z=>nomatch z))]
  exact ec
end
section
variable {X:Cx}{pins:List (Addr×Obj)}{σ:St}{H:Hp}{s:Qe}{a:Addr}{kvs:List (Zn×V)}{k:Zn}{u:Qc}{A:QD}{E:Qc->Qe->Prop}
theorem Znr (I:Inv X pins σ H s)(e:H a=some (.dK kvs))(Y:RelV (kV k) u)(l:ZN kvs k=some v)(hm:B=[]\/∃ x,B=[x])(h:∀ J s',Inv X pins σ (upd H a (.dK (UX kvs k))) s'->RelV v J->Q J s'):Qq (Qw X.prog X.w) A (call (.builtin "dict.pop") (.ref a::u::B)) Q E s:=by
 obtain ⟨z,hd,vs,G,dd⟩:=VO I.hok e
 obtain ⟨J,hw,Z⟩:=RelO.some_of (v:=v) (o:=Rc vs k) (by rw [<- l];exact G.val k)
 have hp:(keyPart u).isSome=true:=by
  cases k with
  | inl i=>obtain ⟨t,q⟩:=(show ∃ t,u=Po i t from Y);subst q;rfl
  | inr x=>obtain ⟨t,q⟩:=(show ∃ t,u=JH x t from Y);subst q;rfl
 have ha:argsOk "dict.pop" ⟨.ref a::u::B,[]⟩:=by
  rcases hm with q | ⟨x,q⟩
  ·subst q;exact PySem.F.args_dict_pop_2 _ _
  ·subst q;exact SD _ _ _
 refine Te Pk dd.typeIs Re ha (meets_dict_pop_there (ZL X.prog X.w) a (Va Y) B hm hp)
  ⟨vs,J,dd,by rw [<- G.length];exact z,hw,fun h' W hs=>h J _ ?_ Z⟩
 have he:∃ q,h'.get? a=some q:=let ⟨q,_,_,hq,_⟩:=W;⟨q,hq⟩
 exact VM I (by rw [e];exact QZ) hs he (Zds (Qo (Zim kvs k) z) hd (G.drop k) W)
theorem Zma (I:Inv X pins σ H s)(e:H a=some (.dK kvs))(G:RelV (kV k) u)(l:ZN kvs k=none)(h:∀ s',Inv X pins σ H s'->Q r s'):
 Qq (Qw X.prog X.w) A (call (.builtin "dict.pop") [.ref a,u,r]) Q E s:=by
 obtain ⟨z,J,vs,B,dd⟩:=VO I.hok e
 have W:Rc vs k=none:=RelO.none_of (by rw [<- l];exact B.val k)
 have hp:(keyPart u).isSome=true:=by
  cases k with
  | inl i=>obtain ⟨t,q⟩:=(show ∃ t,u=Po i t from G);subst q;rfl
  | inr x=>obtain ⟨t,q⟩:=(show ∃ t,u=JH x t from G);subst q;rfl
 exact Te Pk dd.typeIs Re (SD _ _ _) (meets_dict_pop_default (ZL X.prog X.w) a (Va G) J hp r) ⟨vs,dd,W,h _ (I.tok _)⟩
end
inductive ZcD (Q:VK)(y x:V)(H2:Hp):Prop
 | mk (a o:_):x=.ref a->DGet H2 a y o->Q (.bl (!o.isSome)) H2->ZcD Q y x H2
def ZlA (ty td:TE):TE:=fun σ H Q=>ty σ H fun y H1=>td σ H1 fun x H2=>ZcD Q y x H2
inductive ZeZ (D:YA)(σ:St)(v x y:V)(H3:Hp):Prop
 | mk (a H4:_):x=.ref a->DPut H3 a y v H4->D.nx σ H4->ZeZ D σ v x y H3
def ZnK (td ty tv:TE):TS:=fun D σ H=>tv σ H fun v H1=>td σ H1 fun x H2=>ty σ H2 fun y H3=>ZeZ D σ v x y H3
section
variable {X:Cx}{o i e value:Expr}{pos pos' tpos:Pos}{td ty tv:TE}
theorem Zho (Z:X.A.units+1 < OV)(hi:PE X i ty)(J:PE X o td):PC X .NotIn i o (ZlA ty td):=by
 intro pins s σ H Q I h
 refine Zw (hi pins s σ H _ I h) fun iv s1 z=>?_
 obtain ⟨y,H1,Y,ry,q1⟩:=z
 refine Zw (J pins s1 σ H1 _ Y q1) fun u s2 z=>?_
 obtain ⟨x,H2,W,G,a,B,ex,g,q2⟩:=z
 subst ex
 obtain rfl:u=Qv a:=G
 exact ZkF Z W g ry fun s3 I3=>⟨.bl (!B.isSome),H2,I3,rfl,q2⟩
theorem ZbP (hu:X.A.units+1 < OV)(B:PE X o td)(hi:PE X i ty)(hv:PE X value tv)(W:Sx value (some (.Subscript o i pos')) pos.line X.env=pure false) :
 PS X (.Assign [.Subscript o i pos'] value pos) (ZnK td ty tv):=by
 intro pins s σ H D I h
 refine wpAny_Assign_Subscript (Zw (hv pins s σ H _ I h) fun r s1 z=>?_) W
 obtain ⟨v,H1,I1,rv,Y⟩:=z
 refine Zw (B pins s1 σ H1 _ I1 Y) fun u s2 z=>?_
 obtain ⟨x,H2,I2,Z,q2⟩:=z
 refine Zw (hi pins s2 σ H2 _ I2 q2) fun iv s3 z=>?_
 obtain ⟨y,H3,J,ry,a,G,ex,g,q3⟩:=z
 subst ex
 obtain rfl:u=Qv a:=Z
 exact ZgE hu J g ry rv fun s4 I4=>⟨σ,G,I4,q3⟩
end
theorem Zdr (h:Heap)(z:GQ < h.objs.size):ObjOk P w H (h.push { cls:=.type "dict",data:=.dict #[] }) h.objs.size (.dK []) :=
 ⟨Qx _,beq_eq_false_iff_ne.mpr (JK (Qt z)),[],.nil,NU h⟩
def Znb:TE:=fun _ H Q=>∀ p,H p=none->Q (.ref p) (upd H p (.dK []))
section
variable {X:Cx}{pos:Pos}
theorem ZiX:PE X (.Dict [] [] pos) Znb:=fun pins s σ H Q I h =>
 wpAny_Dict_empty ⟨.ref s.heap.objs.size,_,I.laid (a:=s.heap.objs.size) (o:=.dK []) (t':=s.toks) (fun _ _ q=>Qd _ q) (Qf _) (Zdr s.heap I.big),rfl,h _ (I.hok.fresh (Qf _))⟩
end
def Zei:List (TE×TE)->St->Hp->(List (V×V)->Hp->Prop)->Prop
 | [],_,H,Q=>Q [] H
 | (tk,tv)::r,σ,H,Q=>tk σ H fun x H1=>tv σ H1 fun y H2=>Zei r σ H2 fun ps H3=>Q ((x,y)::ps) H3
abbrev VV:List (V×V)->List (Qc×Qc)->Prop:=Sk fun p q=>RelV p.1 q.1/\RelV p.2 q.2
def PPs (X:Cx)(pos:Pos)(keys:List (Option Expr))(values:List Expr)(trs:List (TE×TE)):Prop :=
 ∀ (pins:List (Addr×Obj)) (s:Qe) (σ:St) (H:Hp) (Q:List (V×V)->Hp->Prop),Inv X pins σ H s->Zei trs σ H Q ->
  Qq (Qw X.prog X.w) X.A (evalPairs (pairTrees keys values X.env pos)) (fun vs s'=>∃ ps H',Inv X pins σ H' s'/\VV ps vs/\Q ps H') X.xe s
theorem Zlo :PPs X pos [] [] []:=fun pins s σ H Q I h=>pairTrees_nil_walk ⟨[],H,I,.nil,h⟩
theorem Zjw (Z:PE X k tk)(W:PE X v tv)(hr:PPs X pos ks vs z):
 PPs X pos (some k::ks) (v::vs) ((tk,tv)::z):=fun pins s σ H Q I h =>
 pairTrees_cons_walk (Zw (Z pins s σ H _ I h) fun u s1 ⟨x,H1,I1,J,q1⟩=>Zw (W pins s1 σ H1 _ I1 q1) fun w2 s2 ⟨y,H2,Y,ry,q2⟩ =>
  Zw (hr pins s2 σ H2 _ Y q2) fun ws s3 ⟨ps,H3,I3,B,G⟩=>⟨(x,y)::ps,H3,I3,.cons ⟨J,ry⟩ B,G⟩)
def VD (kvs more:List (Zn×V)):List (Zn×V):=more.foldl (fun acc kv=>YJ acc kv.1 kv.2) kvs
theorem KV.merge:∀{z:List (Zn×V)}{B:List (Zn×Qc)}{kvs:List (Zn×V)}{vs:List (Zn×Qc)},KV z B->KV kvs vs->KV (VD kvs z) (merged vs B):=by
 intro z B kvs vs r
 unfold KV at r
 induction r generalizing kvs vs with
 | nil=>intro q;exact q
 | @cons p q ps qs h t ih =>
  intro G
  have e:KV (YJ kvs p.1 p.2) (stored vs q.1 q.2):=by
   have:=G.put p.1 h.2
   rw [<- h.1];exact this
  exact ih e
theorem Vs:∀(z kvs:List (Zn×V)),(VD kvs z).length<=kvs.length+z.length
 | [],kvs=>by show kvs.length<=kvs.length+0;omega
 | p::r,kvs=>by
  have h1:=Vs r (YJ kvs p.1 p.2)
  have h2:=XR kvs p.1 p.2
  show (VD (YJ kvs p.1 p.2) r).length<=_
  rw [length_cons];omega
theorem ZaS {P:Qk}:∀{kvs:List (Zn×V)}{G:List (Qc×Qc)},VV (kvs.map fun B=>(kV B.1,B.2)) G->∃ z,Carries (ZL P w) G z/\KV kvs z
 | [],_,r=>by rw [Nb] at r;cases r;exact ⟨[],QZ,.nil⟩
 | p :: kvs,_,r=>by
  rw [map_cons] at r
  cases r with
  | @cons a b as bs h t =>
   obtain ⟨z,c,q⟩:=ZaS (P:=P) (w:=w) t
   obtain ⟨b1,b2⟩:=b
   exact ⟨(p.1,b2)::z,⟨Va h.1,rfl,c⟩,.cons ⟨rfl,h.2⟩ q⟩
def ZnW (trs:List (TE×TE)):TE:=fun σ H Q=>∀ p,H p=none->Zei trs σ (upd H p (.dK [])) fun ps H2=>H2 p=some (.dK [])/\∃ kvs:List (Zn×V),ps=kvs.map (fun kv=>(kV kv.1,kv.2))/\kvs.length<=15/\Q (.ref p) (upd H2 p (.dK (VD [] kvs)))
theorem Zli (h:PPs X pos keys B G)(J:keys.all (·.isSome)=true)(hl:keys.length=B.length)(h0:keys≠[])(Y:keys.length<=15):PE X (.Dict keys B pos) (ZnW G):=by
 intro pins s σ H Q I q
 have hn:=I.hok.fresh (Qf s.heap.objs.size)
 have I1:=I.laid (a:=s.heap.objs.size) (o:=.dK []) (h':=s.heap.push { cls:=.type "dict",data:=.dict #[] }) (t':=s.toks) (fun _ _ q=>Qd _ q) (Qf _) (Zdr s.heap I.big)
 refine wpAny_Dict_walk (knd:=ZL X.prog X.w) J hl h0 Y (Zw (h pins _ σ _ _ I1 (q _ hn)) fun ws s2 zz=>?_)
 obtain ⟨ps,H2,I2,Z,e,kvs,ep,lk,q2⟩:=zz
 subst ep
 obtain ⟨rs,c,rk⟩:=ZaS (P:=X.prog) (w:=X.w) Z
 obtain ⟨z,hd,vs0,r0,dd⟩:=VO I2.hok e
 cases r0
 refine ⟨rs,c,dd,fun h' W hs=>⟨.ref s.heap.objs.size,_,?_,rfl,q2⟩⟩
 have hz:(VD [] kvs).length<=sizeLine:=by
  have h1:=Vs kvs []
  rw [Rm] at h1
  rw [Gg];omega
 have he:∃ q,h'.get? s.heap.objs.size=some q:=let ⟨q,_,_,hq,_⟩:=W;⟨q,hq⟩
 exact VM I2 (by rw [e];exact QZ) hs he (Zds hz hd (rk.merge .nil) W)
structure M1 (X:Cx)(o:Expr)(m:Str)(apos:Pos)(e:Expr)(cpos:Pos):Prop where
 base:JR o m X.env (eval o X.env)=eval o X.env
 few:((GZ cpos (QA [e] X.env)).all (fun x=>!x.1)&&(PJ cpos (Jg [] X.env)).all (fun x=>x.1.isSome)
  && decide (([e]:List Expr).length+([]:List SW).length+(if ([]:List SW).isEmpty then 0 else 1) < 30))=true
 line:(apos.endLine == cpos.line)=true
 trees:GZ cpos (QA [e] X.env)=[(false,eval e X.env)]
structure M2 (X:Cx)(o:Expr)(m:Str)(apos:Pos)(e f:Expr)(cpos:Pos):Prop where
 base:JR o m X.env (eval o X.env)=eval o X.env
 few:((GZ cpos (QA [e,f] X.env)).all (fun x=>!x.1)&&(PJ cpos (Jg [] X.env)).all (fun x=>x.1.isSome)
  && decide (([e,f]:List Expr).length+([]:List SW).length+(if ([]:List SW).isEmpty then 0 else 1) < 30))=true
 line:(apos.endLine == cpos.line)=true
 trees:GZ cpos (QA [e,f] X.env)=[(false,eval e X.env),(false,eval f X.env)]
def IsD (H:Hp)(a:Addr):Prop:=(∃ kvs,Rd H a (.dK kvs))\/∃ kvs,Rd H a (.dT kvs)
theorem ZgR (I:Inv X pins σ H s)(d:IsD H a):
 s.TypeIs (.ref a) "dict"/\(∀ b,Qv a=.ref b->∃ z,s.heap.get? b=some z/\z.dict=none)/\(a == GQ)=false:=by
 rcases d with ⟨kvs,e⟩ | ⟨kvs,e⟩
 ·obtain ⟨_,B,vs,_,dd⟩:=ZcO I.hok e
  refine ⟨dd.typeIs,fun b q=>?_,B⟩
  cases q
  obtain ⟨z,_,_,h1,h2,_⟩:=dd
  exact ⟨z,h1,h2.2.1⟩
 ·obtain ⟨_,B,xs,_,dd⟩:=ZcP I.hok e
  refine ⟨dd.typeIs,fun b q=>?_,B⟩
  cases q
  obtain ⟨z,_,_,h1,h2,_⟩:=dd
  exact ⟨z,h1,h2.2.1⟩
section
variable {X:Cx}{pins:List (Addr×Obj)}{σ:St}{H:Hp}{s:Qe}{a:Addr}{y d:V}{u r:Qc}{o:Option V}{A:QD}{E:Qc->Qe->Prop}
theorem ZlZ (hu:A.units+1 < OV)(I:Inv X pins σ H s)(g:DGet H a y o)(Y:RelV y u)(h:∀ W s',Inv X pins σ H s'->RelV (o.getD .non) W->Q W s'):
 Qq (Qw X.prog X.w) A (call (.builtin "dict.get") [.ref a,u]) Q E s:=by
 rcases g with ⟨kvs,k,e,J,l⟩ | ⟨kvs,k,b,e,J,Z,l⟩
 ·subst J
  obtain ⟨z,G,vs,B,dd⟩:=ZcO I.hok e
  refine Te Pm dd.typeIs Rf (SE _ _) (meets_dict_get (ZL X.prog X.w) a (Va Y) G) ⟨_,dd.mapOf,h _ _ (I.tok _) ?_⟩
  rw [l]
  exact (B.val k).getD rfl
 ·subst J
  cases (show u=Qv b from Y)
  obtain ⟨z,G,xs,B,dd⟩:=ZcP I.hok e
  refine Te Pm dd.typeIs Rf (SE _ _) (meetsH_dict_get (Sv (ZL X.prog X.w)) a b G) ⟨Tv hu,k,xs,Zbf I.hok Z,dd,h _ _ (I.tok _) ?_⟩
  rw [l]
  exact (B.val k).getD rfl
end
inductive Zeg (ty:TE)(σ:St)(Q:VK)(x:V)(H1:Hp):Prop
 | mk (a:_):x=.ref a->IsD H1 a->(ty σ H1 fun y H2=>∃ o,DGet H2 a y o/\Q (o.getD .non) H2)->Zeg ty σ Q x H1
def Zna (td ty:TE):TE:=fun σ H Q=>td σ H fun x H1=>Zeg ty σ Q x H1
inductive Zeh (ty tx:TE)(σ:St)(Q:VK)(x:V)(H1:Hp):Prop
 | mk (a:_):x=.ref a->IsD H1 a->(ty σ H1 fun y H2=>tx σ H2 fun z H3=>∃ kvs k,H3 a=some (.dK kvs)/\y=kV k/\(∀ v,ZN kvs k=some v->Q v (upd H3 a (.dK (UX kvs k))))/\(ZN kvs k=none->Q z H3))->Zeh ty tx σ Q x H1
def Znc (td ty tx:TE):TE:=fun σ H Q=>td σ H fun x H1=>Zeh ty tx σ Q x H1
section
variable {X:Cx}{o e f:Expr}{apos cpos:Pos}{td ty tx:TE}
theorem ZdN (hu:X.A.units+1 < OV)(J:PE X o td)(he:PE X e ty)(m:M1 X o "get" apos e cpos):PE X (.Call (.Attribute o "get" apos) [e] [] cpos) (Zna td ty):=by
 intro pins s σ H Q I h
 refine Nf m.base m.few m.line JW Pm PySem.F.type_dict_get (Zw (J pins s σ H _ I h) fun u s1 z=>?_)
 obtain ⟨x,H1,G,Z,a,ex,d,Y⟩:=z
 subst ex
 obtain rfl:u=Qv a:=Z
 obtain ⟨t1,t2,_⟩:=ZgR G d
 refine ⟨t1,t2,?_⟩
 rw [m.trees]
 refine Ji rfl (PM (JU (Zw (he pins s1 σ H1 _ G Y) fun iv s2 z=>?_)))
 obtain ⟨y,H2,I2,ry,ov,g,q2⟩:=z
 refine TZ ?_
 exact ZlZ hu I2 g ry fun w' s3 W B=>⟨_,H2,W,B,q2⟩
theorem ZiY (Z:PE X o td)(he:PE X e ty)(hf:PE X f tx)(m:M2 X o "pop" apos e f cpos):PE X (.Call (.Attribute o "pop" apos) [e,f] [] cpos) (Znc td ty tx):=by
 intro pins s σ H Q I h
 refine Nf m.base m.few m.line JW Pk PySem.F.type_dict_pop (Zw (Z pins s σ H _ I h) fun u s1 zz=>?_)
 obtain ⟨x,H1,W,rx,a,ex,d,q1⟩:=zz
 subst ex
 obtain rfl:u=Qv a:=rx
 obtain ⟨t1,t2,_⟩:=ZgR W d
 refine ⟨t1,t2,?_⟩
 rw [m.trees]
 refine Ji rfl (PM (JU (Zw (he pins s1 σ H1 _ W q1) fun iv s2 ⟨y,H2,I2,Y,q2⟩ =>
  JU (Zw (hf pins s2 σ H2 _ I2 q2) fun fv s3 ⟨z,H3,J,rz,kvs,k,ea,ey,q3,q4⟩=>TZ ?_))))
 subst ey
 cases l:ZN kvs k with
 | some v=>exact Znr J ea Y l (.inr ⟨fv,rfl⟩) fun w' s4 B G=>⟨v,_,B,G,q3 v l⟩
 | none=>exact Zma J ea Y l fun s4 B=>⟨z,H3,B,rz,q4 l⟩
end
section
variable {X:Cx}{pins:List (Addr×Obj)}{σ:St}{H:Hp}{s:Qe}{a:Addr}{kvs:List (Zn×V)}{A:QD}{E:Qc->Qe->Prop}
end
section
variable {X:Cx}{pins:List (Addr×Obj)}{σ:St}{H:Hp}{s:Qe}{a:Addr}{y:V}{u:Qc}{A:QD}{E:Qc->Qe->Prop}
end
section
variable {κ:Type}[DecidableEq κ]
end
theorem VC {env:Env}(y:Str):∀ z:List (Str×PL),
 (z.map fun (n,k)=>if (k == Jt&&env.scope.kind == .function&&env.kindOf n == some .cell) then (n,NameKind.cell) else (n,k)).lookup y =
  (z.lookup y).map fun k=>if (k == Jt&&env.scope.kind == .function&&env.kindOf y == some .cell) then NameKind.cell else k
 | []=>rfl
 | (n, k)::r=>by
  have G:=VC (env:=env) y r
  rw [map_cons]
  cases hx:y == n with
  | true =>
   have e:y=n:=by simpa using hx
   subst e
   by_cases B:(k == Jt&&env.scope.kind == .function&&env.kindOf y == some .cell)=true
   ·simp only [B,if_true,lookup_cons,beq_self_eq_true,GK]
   ·simp only [B,lookup_cons,beq_self_eq_true,GK]
    simp [B]
  | false =>
   by_cases B:(k == Jt&&env.scope.kind == .function&&env.kindOf n == some .cell)=true
   ·simp only [B,if_true,lookup_cons,hx];exact G
   ·simp only [B,lookup_cons,hx,Jj,if_false];exact G
theorem YO (G:∀ z∈scope.names,z.2≠.cell)(h:(relabel scope env).names.lookup y=some k):
 scope.names.lookup y=some k\/(scope.names.lookup y=some .free/\k=.cell):=by
 unfold relabel at h
 rw [VC] at h
 cases e:scope.names.lookup y with
 | none=>rw [e] at h;cases h
 | some k0 =>
  rw [e] at h
  simp only [GK,Option.some.injEq] at h
  by_cases B:(k0 == Jt&&env.scope.kind == .function&&env.kindOf y == some .cell)=true
  ·rw [if_pos B] at h
   right
   simp only [QI,beq_iff_eq] at B
   exact ⟨by rw [B.1.1],h.symm⟩
  ·rw [if_neg B] at h
   left;rw [h]
theorem mem_of_lookup {B:Type}{y:Str}{k:B}:∀{l:List (Str×B)},l.lookup y=some k->(y,k)∈l
 | [],h=>by cases h
 | (n,z)::r,h=>by
  cases hx:y == n with
  | true =>
   have e:y=n:=by simpa using hx
   subst e
   simp only [lookup_cons,beq_self_eq_true] at h
   cases h
   exact mem_cons_self
  | false =>
   simp only [lookup_cons,hx] at h
   exact mem_cons_of_mem _ (mem_of_lookup h)
theorem UU {env:Env}:∀(z:List (Str×PL))(B:List (Str×Addr)),(∀ y∈z,y.2=.free->∃ c,env.cells.lookup y.1=some c) ->
 ∃ G:List (Str×Addr),(forIn z B fun (x:Str×PL) (r:List (Str×Addr))=>(if x.2 == Jt then (do let a <- cellOf env x.1;pure (Jr ((x.1,a)::r))) else pure (Jr r):Sem (ForInStep (List (Str×Addr)))))=pure G /\
  (∀ y c,G.lookup y=some c->B.lookup y=some c\/env.cells.lookup y=some c)/\(∀ y,B.lookup y≠none->G.lookup y≠none)/\∀ y∈z,y.2=.free->G.lookup y.1≠none
 | [],B,_=>⟨B,rfl,fun _ _ h=>.inl h,fun _ h=>h,fun _ h=>(nomatch h)⟩
 | (n, k)::r,B,h=>by
  by_cases Z:k=.free
  ·subst Z
   obtain ⟨c,hc⟩:=h (n,.free) mem_cons_self rfl
   obtain ⟨G,e,g1,Y,g3⟩:=UU r ((n,c)::B) fun y hy=>h y (mem_cons_of_mem _ hy)
   refine ⟨G,?_,?_,?_,?_⟩
   ·rw [JS]
    have I:cellOf env n=pure c:=by unfold cellOf;rw [hc]
    simp only [beq_self_eq_true,if_true,I,pure_bind]
    exact e
   ·intro y d q
    rcases g1 y d q with q | q
    ·cases hx:y == n with
     | true =>
      have J:y=n:=by simpa using hx
      subst J
      simp only [lookup_cons,beq_self_eq_true] at q
      cases q
      exact .inr hc
     | false=>simp only [lookup_cons,hx] at q;exact .inl q
    ·exact .inr q
   ·intro y q
    apply Y
    cases hx:y == n with
    | true=>simp [lookup_cons,hx]
    | false=>simpa [lookup_cons,hx] using q
   ·intro y hy W
    rcases mem_cons.mp hy with J | hy
    ·subst J
     apply Y
     simp [lookup_cons]
    ·exact g3 y hy W
  ·obtain ⟨G,e,g1,Y,g3⟩:=UU r B fun y hy=>h y (mem_cons_of_mem _ hy)
   refine ⟨G,?_,g1,Y,?_⟩
   ·rw [JS]
    have hb:(k == Jt)=false:=by simpa using Z
    simp only [hb,Jj,if_false,pure_bind]
    exact e
   ·intro y hy W
    rcases mem_cons.mp hy with J | hy
    ·subst J;exact absurd W Z
    ·exact g3 y hy W
theorem ZaT {scope:Scope}(h:∀ y∈scope.names,y.2=.free->∃ c,env.cells.lookup y.1=some c):
 ∃ B,closureFor scope env=pure B/\(∀ y c,B.lookup y=some c->env.cells.lookup y=some c)/\∀ y∈scope.names,y.2=.free->B.lookup y.1≠none:=by
 obtain ⟨B,e,I,_,G⟩:=UU (env:=env) scope.names [] h
 refine ⟨B,?_,fun y c q=>(I y c q).elim (fun z=>by cases z) fun z=>z,G⟩
 simp only [closureFor]
 rw [<- bind_pure (pure B:Sem _),<- e]
def Uv (N xs:List Str):List Str:=N.map fun y=>if y∈xs then (if xs.head?=some y then "" else "0") else y
theorem Zav (N xs:List Str):(Uv N xs).length=N.length:=length_map ..
theorem Ziu {N xs:List Str}{y:Str}{i:Nat}(h:(Uv N xs)[i]?=some y):(N[i]?=some y/\y ∉ xs)\/y=""\/y="0":=by
 unfold Uv at h
 rw [getElem?_map] at h
 cases e:N[i]? with
 | none=>rw [e] at h;cases h
 | some z =>
  rw [e] at h
  have h:(if z∈xs then (if xs.head?=some z then ("":Str) else "0") else z)=y:=Qu h
  by_cases q:z∈xs
  ·rw [if_pos q] at h
   by_cases g:xs.head?=some z
   ·rw [if_pos g] at h;exact .inr (.inl h.symm)
   ·rw [if_neg g] at h;exact .inr (.inr h.symm)
  ·rw [if_neg q] at h;subst h;exact .inl ⟨rfl,q⟩
abbrev hid2 (N:List Str)(xa xb:Str):List Str:=Uv N [xa,xb]
def Yh (X:Cx)(scope:Scope)(xs:List Str)(cl:List (Str×Addr))(C:Addr)(s₀:Qe)(H₀:Hp)(fp:List Addr):Cx :=
 {prog:=X.prog,w:=X.w,K:=X.K,mg:=X.mg,base:=X.base,A:=X.A,N:=Uv X.N xs++xs,s₀:=s₀,H₀:=H₀,env:=compEnvC scope cl C X.env,outer:=X.stack,stack:=X.stack,
  ex:=fp,fn:=fun _=>false,calm:=X.calm,pn:=[],xe:=fun _ _=>False }
abbrev Zdm (X:Cx)(scope:Scope)(x:Str):=Yh X scope [x]
abbrev ZbH (X:Cx)(scope:Scope)(xa xb:Str):=Yh X scope [xa,xb]
structure CompOkN (X:Cx)(scope:Scope)(xs:List Str):Prop where
 nd:(Uv X.N xs++xs).Nodup
 clos:∀ y∈scope.names,y.2=.free->X.env.kindOf y.1=some .cell\/X.env.kindOf y.1=some .free
 cell:∀ y∈scope.names,y.2≠.cell
 kind:scope.kind=.function
 names:∀ y∈scope.names,y.2=.local->scope.names.lookup y.1=some .local
 loc:∀ x∈xs,scope.names.lookup x=some .local
 own:∀ y∈X.N,y ∉ xs->scope.names.lookup y≠some .local
 noh:scope.names.lookup ("":Str)=none/\scope.names.lookup ("0":Str)=none
abbrev CompOk (X:Cx)(scope:Scope)(x:Str):=CompOkN X scope [x]
abbrev CompOkT (X:Cx)(scope:Scope)(xa xb:Str):=CompOkN X scope [xa,xb]
def UW (N:List Str)(names:List (Str×PL))(scope:Scope)(xs:List Str):Bool :=
 decide ((Uv N xs++xs).Nodup)&&scope.names.all (fun y=>(y.2 != .free || names.lookup y.1 == some .cell || names.lookup y.1 == some .free)&&(y.2 != .cell&&(y.2 != .local || scope.names.lookup y.1 == some .local))) &&
 ((scope.kind == .function&&xs.all fun x=>scope.names.lookup x == some .local)&&N.all fun y=>decide (y∈xs) || scope.names.lookup y != some .local)&&(scope.names.lookup ("":Str) == none&&scope.names.lookup ("0":Str) == none)
theorem CompOkN.of (N:List Str)(st:Stmt)(I:X.N=N)(hn:X.env.scope=Zi st)(WJ:UW N (Zi st).names scope xs=true):CompOkN X scope xs:=by
 unfold UW at WJ
 simp only [QI,decide_eq_true_eq,all_eq_true,NV,bne_iff_ne,beq_iff_eq] at WJ
 obtain ⟨⟨⟨c1,G⟩,⟨c3,c4⟩,Y⟩,W⟩:=WJ
 refine ⟨by rw [I];exact c1,fun y B J=>?_,fun y B=>(G y B).2.1,c3,fun y B hl=>?_,c4,fun y B Z=>(Y y (by rw [<- I];exact B)).resolve_left Z,W⟩
 ·show X.env.scope.names.lookup y.1=_\/X.env.scope.names.lookup y.1=_
  rw [hn]
  rcases (G y B).1 with (z | z) | z
  ·exact absurd J z
  ·exact .inl z
  ·exact .inr z
 ·rcases (G y B).2.2 with z | z
  ·exact absurd hl z
  ·exact z
theorem CompOk.of (N:List Str)(st:Stmt)(B:X.N=N)(z:X.env.scope=Zi st)(WJ:UW N (Zi st).names scope [x]=true):CompOk X scope x:=CompOkN.of N st B z WJ
theorem CompOkT.of (N:List Str)(st:Stmt)(B:X.N=N)(z:X.env.scope=Zi st)(WJ:UW N (Zi st).names scope [xa,xb]=true):CompOkT X scope xa xb:=CompOkN.of N st B z WJ
def tYes:TT:=fun _ H k=>k true H
def PCs (X:Cx)(cs:List Expr)(tc:TT):Prop:=(cs=[]/\tc=tYes)\/∃ c,cs=[c]/\PT X c tc
def VJ (J:It)(g:TG)(tc:TT)(te:TE)(n:Nat)(OK:St->St->Prop)(σ:St)(D:Addr)(Q:VK)(H1:Hp):Prop :=
 ∃ W : Nat->Nat->List V->Hp->Prop,(∃ m,W 0 m [] (upd H1 D (.lst [])))/\∀ i m ys H2,W i m ys H2 ->
  (J.stop i H2/\Q (.ref D) H2)\/(J.go i H2/\∃ (N:VK) (M:Hp->Prop),(∀ y H4,N y H4->H4 D=some (.lst ys)/\ys.length < Qg/\∃ m',m' < m/\W (i+1) m' (ys++[y]) (upd H4 D (.lst (ys++[y]))))/\(∀ H4,M H4->∃ m',m' < m/\W (i+1) m' ys H4) /\
   ∀ ws v H3,ws.length=n->J.yld i H2 v H3->g v (σ++ws) H3 fun σ' H'=>OK σ σ'/\tc σ' H' fun b H4=>if b=true then te σ' H4 N else M H4)
def tCW (wi:TI)(CW:It->St->Addr->VK->Hp->Prop):TE:=fun σ H Q=>wi σ H fun J H1=>∀ D,H1 D=none->CW J σ D Q H1
def CompW (J:It)(te:TE)(σ:St)(D:Addr)(Q:VK)(H1:Hp):Prop :=
 ∃ W:Nat->Nat->List V->Hp->Prop,(∃ m,W 0 m [] (upd H1 D (.lst [])))/\∀ i m ys H2,W i m ys H2 ->
  (J.stop i H2/\Q (.ref D) H2)\/(J.go i H2/\∃ N:VK,(∀ y H4,N y H4->H4 D=some (.lst ys)/\ys.length < Qg/\∃ m',m' < m/\W (i+1) m' (ys++[y]) (upd H4 D (.lst (ys++[y]))))/\∀ v H3,J.yld i H2 v H3->te (σ++[some v]) H3 N)
def ZnV (wi:TI)(te:TE):TE:=fun σ H Q=>wi σ H fun J H1=>∀ D,H1 D=none->CompW J te σ D Q H1
section
variable {X:Cx}{elt iter tg:Expr}{cs:List Expr}{xs:List Str}{pos:Pos}{scope:Scope}{wi:TI}{te:TE}{tc:TT}{g:TG}{OK:St->St->Prop}{CW:It->St->Addr->VK->Hp->Prop}
theorem UV (I:Nat->Qe->Prop)(turn : ∀ n s,I n s->Qq (Qw prog w) A (Sm it) (fun r B=>match r with
     | none=>R (.ok .next) B
     | some v=>Qq (Qw prog w) A (PR z it v) (fun _ s1'=>Qq (Qw prog w) A (SS z env v) (fun _ Z=>Qq (Qw prog w) A (forIn cs true fun c r=>if r=true then do let ok <- isTrue c env (eval c env);pure (Jr ok) else pure (Jr r)) (fun ok s2'=>if ok=true then Qq (Qw prog w) A (eval elt env) (fun x J =>
         Qq (Qw prog w) A (call (.builtin "list.append") [acc,x]) (fun _ G=>∃ m,m < n/\I m G) (fun _ _=>False) J)
         (fun _ _=>False) s2' else ∃ m,m < n/\I m s2') (fun _ _=>False) Z) (fun _ _=>False) s1') (fun _ _=>False) B) (fun _ _=>False) s)(n:Nat)(h:I n s):
   Tc (Qw prog w) A (.compLoop (.ListComp elt [⟨z,iter,cs,0⟩] scope pos) 0 it acc env) R s:=by
 refine codeAny_loop rfl I (fun n s hI=>?_) n h
 show Qq _ _ ((compTurn (.ListComp elt [⟨z,iter,cs,0⟩] scope pos) 0 it acc env).onRaise (fun x=>do noteFrame x env;theTreesLotGoes x)) _ _ s
 refine wpAny_noted ?_
 rw [compTurn_list]
 refine Qb (GT (Qb (GE (turn n s hI) (fun r B Y=>?_) fun _ _ h'=>h'.elim)))
 cases r with
 | none=>exact Qh Y
 | some v =>
   refine Qb (GE Y (fun _ s1' h1'=>?_) fun _ _ h'=>h'.elim)
   refine Qb (GE h1' (fun _ Z h₂=>Qb (GE h₂ (fun ok J W=>?_) fun _ _ h'=>h'.elim)) fun _ _ h'=>h'.elim)
   cases ok with
   | false=>exact Qh ⟨rfl,W⟩
   | true =>
     exact Qb (Qb (GE W (fun x G h₄=>Qb (GE h₄ (fun _ s₅ h₅=>Qh (Qh ⟨rfl,h₅⟩)) fun _ _ h'=>h'.elim)) fun _ _ h'=>h'.elim))
theorem PCs.go (h:PCs X cs tc)(pins:List (Addr×Obj))(s:Qe)(σ:St)(H:Hp)(Q:Bool->Hp->Prop)(I:Inv X pins σ H s)(q:tc σ H Q):
 Qq (Qw X.prog X.w) X.A (forIn cs true fun c r=>if r=true then do let ok <- isTrue c X.env (eval c X.env);pure (Jr ok) else pure (Jr r)) (fun b s'=>∃ H',Inv X pins σ H' s'/\Q b H') X.xe s:=by
 rcases h with ⟨rfl,rfl⟩ | ⟨c,rfl,h⟩
 ·exact wpAny_tests_nil ⟨H,I,q⟩
 ·exact wpAny_tests_one (h pins s σ H Q I q)
theorem Zad {pins:List (Addr×Obj)}{σ:St}{H2:Hp}{G:Qe}{J:It}{fp:List Addr}{it:Addr}{tn:Nat->Heap->Prop}{Z:List (Str×Addr)}{E:Qc->Qe->Prop}{Q:VK}{RR:Qc->Addr->Nv->Qe->Prop}
 (O:CompOkN X scope xs) (hc:X.calm=true) (cl1:∀ y c,Z.lookup y=some c->X.env.cells.lookup y=some c) (cl2:∀ y∈scope.names,y.2=.free->Z.lookup y.1≠none)
 (hOK:∀ σ σ',OK σ σ'->∃ ws:St,ws.length=xs.length/\σ'=σ++ws) (hg:∀ Z C s₀ H₀ fp,PG (Yh X scope xs Z C s₀ H₀ fp) tg g) (hcn:∀ Z C s₀ H₀ fp,PCs (Yh X scope xs Z C s₀ H₀ fp) cs tc) (he:∀ Z C s₀ H₀ fp,PE (Yh X scope xs Z C s₀ H₀ fp) elt te)
 (I2:Inv X pins σ H2 G) (T:UR X.prog X.w X.K tg J fp it tn) (st:tn 0 G.heap) (f2:∀ b∈fp,Xz X pins H2 b)
 (h:∀ D,H2 D=none->VJ J g tc te xs.length OK σ D Q H2)
 (hRR:∀ D C H' s',Inv X pins σ H' s'->Xz X pins H' C->(∃ m,s'.heap.Ns C m)->Q (.ref D) H'->RR (.ref D) C (.ok .next) s') :
 Qq (Qw X.prog X.w) X.A (newList []) (fun acc B=>Qq (Qw X.prog X.w) X.A (newFunctionEnv scope X.env.globals Z [] X.env.qual none .none (some X.env)) (fun cenv s₄ =>
  Tc (Qw X.prog X.w) X.A (.compStart (.ListComp elt [⟨tg,iter,cs,0⟩] scope pos) 0 (.ref it) acc { cenv with scope:=relabel scope X.env }) (RR acc cenv.locals) s₄) E B) E G:=by
 have hD:H2 G.heap.objs.size=none:=I2.hok.fresh (Qf _)
 refine Gd ?_
 have Y:Inv X pins σ (upd H2 G.heap.objs.size (.lst [])) { G with heap:=G.heap.push { cls:=.type "list",data:=.seq ([]:List Qc).toArray } } :=
  I2.laid (t':=G.toks) (fun b u e=>Qd _ e) (Qf _) ⟨Qx _,[],_,.nil,Ql _ rfl⟩
 have f3:∀ b∈fp,Xz X pins (upd H2 G.heap.objs.size (.lst [])) b:=fun b I=>by
  obtain ⟨g0,g1⟩:=f2 b I
  obtain ⟨o,e,_⟩:=T.obj 0 _ st b I
  exact ⟨by rw [Zj (Qt (Qi e))];exact g0,g1⟩
 have st3:tn 0 (G.heap.push { cls:=.type "list",data:=.seq ([]:List Qc).toArray }):=T.keep _ _ _ st fun b I o e=>Qd _ e
 obtain ⟨W,⟨m0,w0⟩,turn⟩:=h _ hD
 generalize hDe:G.heap.objs.size=D at Y f3 w0 turn ⊢
 generalize hH3:upd H2 D (.lst [])=H3 at Y f3 w0 turn ⊢
 generalize hs3:({ G with heap:=G.heap.push { cls:=.type "list",data:=.seq ([]:List Qc).toArray } }:Qe)=B at Y
 have st3':tn 0 B.heap:=by rw [<- hs3];exact st3
 have hobj:∀ b∈fp,b < B.heap.objs.size:=fun b I=>by
  obtain ⟨o,e,_⟩:=T.obj 0 _ st3' b I
  exact Qi e
 refine wpAny_newFunctionEnv O.cell (by intro y hy;simp at hy) (fun h₁ hns₁ hsb₁=>?_) O.kind
 have old:∀ b o,B.heap.get? b=some o->h₁.get? b=some o:=fun b o e=>hsb₁.extBut b o (Qt (Qi e)) (Qd _ e)
 generalize hs4:({ B with heap:=h₁,toks:=B.toks+([]:List (Str×Qc)).length }:Qe)=s₄
 have h4:s₄.heap=h₁:=by rw [<- hs4]
 have hX:∀ C,Xz X pins C B.heap.objs.size->True:=fun _ _=>trivial
 have ok':(Yh X scope xs Z B.heap.objs.size B H3 fp).Ok:=by
  refine ⟨Y.ok.mod,O.kind,Y.ok.glob,Y.ok.blt,Qf _,?_,?_,?_,Y.ok.hd,Y.ok.frames,.inl rfl,?_,Y.bs,Qo Y.ok.bsz Y.sz,?_,?_,Y.stack,Y.stkFree⟩
  ·exact fun y z c e1 e2=>Y.ok.inj y z c (cl1 y c e1) (cl1 z c e2)
  ·intro y hk
   have hf:scope.names.lookup y=some .free:=by
    rcases hk with hk | hk
    ·rcases YO O.cell hk with q | q
     ·exact absurd rfl (O.cell _ (mem_of_lookup q))
     ·exact q.1
    ·rcases YO O.cell hk with q | q
     ·exact q
     ·cases q.2
   have:=cl2 _ (mem_of_lookup hf) rfl
   cases e:Z.lookup y with
   | none=>exact absurd e this
   | some c=>exact ⟨c,e⟩
  ·intro y c hf;cases hf
  ·intro b I
   obtain ⟨g0,g1,g2,g3,g4,g5⟩:=f3 b I
   exact ⟨Qt (hobj b I),fun y c e=>g4 y c (cl1 y c e)⟩
  ·intro b o e I
   obtain ⟨g0,g1,g2,g3,g4,g5⟩:=f3 b I
   rcases g3 with g3 | g3
   ·exact Y.ok.noex b o e g3
   ·exact absurd (Qi e) (Oz.mpr (Qo Y.ok.bsz g3))
  ·intro b I hs
   obtain ⟨g0,g1,g2,g3,g4,g5⟩:=f3 b I
   rcases mem_cons.mp (Y.stkSub b hs) with e | e
   ·exact g1 e
   ·exact g2 e
 have I4 : Inv (Yh X scope xs Z B.heap.objs.size B H3 fp) [] (σ++QE xs.length none) H3 s₄:=by
  obtain ⟨m,hm,hl⟩:=Y.loc
  refine ⟨ok',by rw [<- hs4];rfl,by rw [<- hs4];exact Y.bare,by rw [h4];exact Un.kept old,⟨_,by rw [h4];exact hns₁,?_⟩,?_,Y.hok.fresh (Qf _),fun y c e=>Y.freeC y c (cl1 y c e),?_,by rw [h4];exact Y.hok.kept old,?_⟩
  ·intro i y v e1 e2 e3
   have hlt:i < σ.length:=by
    rcases Nat.lt_or_ge i σ.length with z | z
    ·exact z
    ·rw [getElem?_append_right z] at e2
     have:=List.eq_of_mem_replicate (mem_of_getElem? e2)
     cases this
   rw [getElem?_append_left hlt] at e2
   have hsm:∃ k,scope.names.lookup y=some k:=by
    rcases e3 with hk | hk | hk
    ·rcases YO O.cell hk with q | q
     ·exact ⟨_,q⟩
     ·exact ⟨_,q.1⟩
    ·rcases YO O.cell hk with q | q
     ·exact ⟨_,q⟩
     ·exact ⟨_,q.1⟩
    ·rcases YO O.cell hk with q | q
     ·exact ⟨_,q⟩
     ·exact ⟨_,q.1⟩
   obtain ⟨e1',hyx⟩:X.N[i]?=some y/\y ∉ xs:=by
    have e1:(Uv X.N xs++xs)[i]?=some y:=e1
    rw [getElem?_append_left (by rw [Zav,<- Y.len];exact hlt)] at e1
    rcases Ziu e1 with z | z
    ·exact z
    ·obtain ⟨k,hk⟩:=hsm
     rcases z with z | z
     ·rw [z,O.noh.1] at hk;cases hk
     ·rw [z,O.noh.2] at hk;cases hk
   have hy:y∈X.N:=mem_of_getElem? e1'
   have hf:scope.names.lookup y=some .free:=by
    rcases e3 with hk | hk | hk
    ·rcases YO O.cell hk with q | q
     ·exact absurd q (O.own y hy hyx)
     ·exact q.1
    ·rcases YO O.cell hk with q | q
     ·exact absurd rfl (O.cell _ (mem_of_lookup q))
     ·exact q.1
    ·rcases YO O.cell hk with q | q
     ·exact q
     ·exact q.1
   have hk:=O.clos _ (mem_of_lookup hf) rfl
   have hv:Vis X.env.scope y:=by rcases hk with z | z;exact .inr (.inl z);exact .inr (.inr z)
   obtain ⟨u,ru,lu⟩:=hl i y v e1' e2 hv
   refine ⟨u,ru,?_⟩
   have hkc:(compEnvC scope Z B.heap.objs.size X.env).kindOf y=some .cell\/(compEnvC scope Z B.heap.objs.size X.env).kindOf y=some .free:=by
    rcases e3 with q | q | q
    ·rcases YO O.cell q with z | z
     ·exact absurd z (O.own y hy hyx)
     ·cases z.2
    ·exact .inl q
    ·exact .inr q
   rcases lu with ⟨q,_⟩ | ⟨_,c,hcl,hcc⟩
   ·rcases hk with z | z<;>(rw [q] at z;cases z)
   ·refine .inr ⟨hkc,?_⟩
    cases e:Z.lookup y with
    | none=>exact absurd e (cl2 _ (mem_of_lookup hf) rfl)
    | some c' =>
     have:=cl1 y c' e
     rw [hcl] at this
     cases this
     refine ⟨c,e,?_⟩
     rw [h4]
     obtain ⟨oc,ho,hd⟩:=hcc
     exact ⟨oc,old _ _ ho,hd⟩
  ·intro y c e
   obtain ⟨v,oc,ho,hd⟩:=Y.cell y c (cl1 y c e)
   exact ⟨v,oc,by rw [h4];exact old _ _ ho,hd⟩
  ·intro p hp;cases hp
  ·show (σ++QE xs.length none).length=(Uv X.N xs++xs).length
   rw [length_append,length_append,Zav,Y.len,Pi]
 have st4:tn 0 s₄.heap:=by rw [h4];exact T.keep _ _ _ st3' fun b I o e=>old b o e
 have fpok:∀ {H':Hp},(∀ b∈fp,H' b=none)->∀ b∈fp,Xz (Yh X scope xs Z B.heap.objs.size B H3 fp) [] H' b:=fun hn b I=>by
  obtain ⟨g0,g1,g2,g3,g4,g5⟩:=f3 b I
  refine ⟨hn b I,Qt (hobj b I),ok'.exfs b I,.inl I,fun y c e=>g4 y c (cl1 y c e),?_⟩
  intro p hp;cases hp
 have loop:Tc (Qw X.prog X.w) X.A (.compLoop (.ListComp elt [⟨tg,iter,cs,0⟩] scope pos) 0 (.ref it) (.ref D) (compEnvC scope Z B.heap.objs.size X.env)) (RR (.ref D) B.heap.objs.size) s₄:=by
  refine UV (fun n s'=>∃ i ys ws H',ws.length=xs.length/\Inv (Yh X scope xs Z B.heap.objs.size B H3 fp) [] (σ++ws) H' s'/\tn i s'.heap/\(∀ b∈fp,H' b=none)/\W i n ys H') ?_ m0 ⟨0,[],_,H3,Pi,I4,st4,fun b I=>(f3 b I).1,w0⟩
  rintro n s5 ⟨i,ys,ws,H5,hws,I5,st5,fr5,w5⟩
  rcases turn i n ys H5 w5 with ⟨stop,q⟩ | ⟨go,N,M,hN,hM,step⟩
  ·refine Zw (T.done (Yh X scope xs Z B.heap.objs.size B H3 fp) rfl rfl rfl hc i [] s5 _ H5 _ I5 (fpok fr5) st5 stop) fun r s6 ⟨hr,I6⟩=>?_
   subst hr
   obtain ⟨m6,hn6,_⟩:=I6.loc
   have IX:Inv X pins σ H5 s6:=Y.call' (ch:=fp) I6.os I6.base I6.hok I6.bare fun b I=>by
    obtain ⟨g0,g1,g2,g3,g4,g5⟩:=f3 b I
    exact ⟨g3,g1,g4,g5⟩
   exact hRR D _ H5 s6 IX (Y.fpOk (Qf _) I6.free) ⟨m6,hn6⟩ q
  ·refine Zw (T.item (Yh X scope xs Z B.heap.objs.size B H3 fp) rfl rfl rfl hc i [] s5 _ H5 _ I5 (fpok fr5) st5 go) fun r s6 zz=>?_
   obtain ⟨u,hr,h6⟩:=zz
   subst hr
   refine Zw h6 fun _ s7 zz=>?_
   obtain ⟨v,H7,I7,r7,y7,st7,fr7⟩:=zz
   have I7':=I7.pinned (fpok fr7) (T.obj _ _ st7)
   refine Zw (hg Z B.heap.objs.size B H3 fp _ s7 _ H7 v u _ I7' r7 (step ws v H7 hws y7)) fun _ s8 zz=>?_
   obtain ⟨σ8,H8,I8,o8,q8⟩:=zz
   obtain ⟨ws',hws',e8⟩:=hOK σ σ8 o8
   subst e8
   refine Zw (PCs.go (hcn Z B.heap.objs.size B H3 fp) _ s8 _ H8 _ I8 q8) fun bb s8b zz=>?_
   obtain ⟨H8b,I8b,q8b⟩:=zz
   cases bb with
   | false =>
    obtain ⟨m',hm',w9⟩:=hM H8b q8b
    refine ⟨m',hm',i+1,ys,ws',_,hws',I8b.unpinned (pins:=[]),T.keep _ _ _ st7 fun b I o e=>(I8b.pin (b,o) (mem_append_right _ (mem_append_right _ (XI I e)))).1,fun b I=>?_,w9⟩
    obtain ⟨o,e,d⟩:=T.obj _ _ st7 b I
    exact (I8b.pin (b,o) (mem_append_right _ (mem_append_right _ (XI I e)))).2.1
   | true =>
    refine Zw (he Z B.heap.objs.size B H3 fp _ s8b _ H8b _ I8b q8b) fun uy s9 zz=>?_
    obtain ⟨y,H9,I9,r9,n9⟩:=zz
    obtain ⟨hl9,hz9,m',hm',w9⟩:=hN y H9 n9
    refine Zw (YS (X:=Yh X scope xs Z B.heap.objs.size B H3 fp) _ s9 _ H9 (.ref D) [y] (.ref D) [uy] (fun v H'=>H'=upd H9 D (.lst (ys++[y]))) I9 rfl (.cons r9 .nil) ⟨D,ys,y,rfl,rfl,hl9,hz9,rfl⟩) fun _ s10 zz=>?_
    obtain ⟨_,H10,I10,_,e10⟩:=zz
    subst e10
    refine ⟨m',hm',i+1,ys++[y],ws',_,hws',I10.unpinned (pins:=[]),T.keep _ _ _ st7 fun b I o e=>(I10.pin (b,o) (mem_append_right _ (mem_append_right _ (XI I e)))).1,fun b I=>?_,w9⟩
    obtain ⟨o,e,d⟩:=T.obj _ _ st7 b I
    exact (I10.pin (b,o) (mem_append_right _ (mem_append_right _ (XI I e)))).2.1
 exact codeAny_compStart_list loop (T.self _ 0 _ _ _ st4 loop)
theorem ZdM (O:CompOkN X scope xs)(hc:X.calm=true)(hi:PI X tg iter wi)(conv:∀ J σ D Q H,σ.length=X.N.length->CW J σ D Q H->VJ J g tc te xs.length OK σ D Q H)(hOK:∀ σ Y,OK σ Y->∃ ws:St,ws.length=xs.length/\Y=σ++ws)(hg:∀ W C B G fp,PG (Yh X scope xs W C B G fp) tg g)(hcn:∀ W C B G fp,PCs (Yh X scope xs W C B G fp) cs tc)(he:∀ W C B G fp,PE (Yh X scope xs W C B G fp) elt te)
 (hs:∀ v,GL iter X.env v=pure v:=by intro _;rfl):PE X (.ListComp elt [⟨tg,iter,cs,0⟩] scope pos) (tCW wi CW):=by
 intro pins s σ H Q I h
 obtain ⟨W,hcl,cl1,cl2⟩:=ZaT (scope:=scope) (env:=X.env) fun y hy hf=>I.ok.has _ (O.clos y hy hf)
 rw [eval_ListComp]
 refine Sq (use:=none) rfl hs hcl O.kind O.names (Zw (hi pins s σ H _ I h) fun v s1 h1=>Zw h1 fun itv s2 h2=>?_)
 obtain ⟨it,fp,tn,J,H2,e,I2,T,st2,f2,q⟩:=h2
 subst e
 refine Zad (RR:=fun Z C=>compPost (Qw X.prog X.w) X.A X.xe none (EP X pins σ Q) Z C) O hc cl1 cl2 hOK hg hcn he I2 T st2 f2 (fun z hz=>conv _ _ z _ _ I2.len (q z hz)) ?_
 intro D C H' s' I' ⟨g0,g1,g2,g3,g4,g5⟩ ⟨m,hm⟩ hq
 exact ⟨m,hm,fun h' hs'=>⟨.ref D,H',I'.turned (t':=s'.toks) (fun b o hb e=>(hs'.2 b hb).trans e) g0 g1 g3 g4 g5,rfl,hq⟩⟩
theorem Zew {i:Nat}(O:CompOkN X scope xs)(hc:X.calm=true)(hN:X.N.Nodup)(hiN:X.N[i]?=some y)(hy:Loc X.env.scope y)(hi:PI X tg iter wi)(conv:∀ J σ D Q H,σ.length=X.N.length->CW J σ D Q H->VJ J g tc te xs.length OK σ D Q H)(hOK:∀ σ σ',OK σ σ'->∃ ws:St,ws.length=xs.length/\σ'=σ++ws)(hg:∀ Y C B G fp,PG (Yh X scope xs Y C B G fp) tg g)(hcn:∀ Y C B G fp,PCs (Yh X scope xs Y C B G fp) cs tc)(he:∀ Y C B G fp,PE (Yh X scope xs Y C B G fp) elt te)(hsw:Sx (.ListComp elt [⟨tg,iter,cs,0⟩] scope pos) (some (.Name y Z)) W.line X.env=pure true)(hf:X.fn y=true\/X.env.scope.names.lookup y=some .local:=by first | exact .inl rfl | exact .inr rfl | assumption)(hs:∀ v,GL iter X.env v=pure v:=by intro _;rfl):PS X (.Assign [.Name y Z] (.ListComp elt [⟨tg,iter,cs,0⟩] scope pos) W) (Zgq (tCW wi CW) (UY i)):=by
 intro pins s σ H D I h
 obtain ⟨Y,hcl,cl1,cl2⟩:=ZaT (scope:=scope) (env:=X.env) fun y hy hf=>I.ok.has _ (O.clos y hy hf)
 rw [exec_Assign_Name_used _ _ _ _ hsw]
 refine Qb (GT (Qb ?_))
 show Qq _ X.A (do let _ <- comprehension (.ListComp elt [⟨tg,iter,cs,0⟩] scope pos) scope X.env _ (newList []) false (eval iter X.env) (some (SS (.Name y Z) X.env))) _ _ s
 refine Qb (GE (Sq (use:=some (SS (.Name y Z) X.env)) (Q:=fun _ s'=>SP X pins D .next s') rfl hs hcl O.kind O.names
  (Zw (hi pins s σ H _ I h) fun v s1 h1=>Zw h1 fun itv s2 h2=>?_)) (fun _ s' hq=>Qh (Qh hq)) fun _ _ e=>e)
 obtain ⟨it,fp,tn,J,H2,e,I2,T,st2,f2,q⟩:=h2
 subst e
 refine Zad (RR:=fun acc C=>compPost (Qw X.prog X.w) X.A X.xe (some (SS (.Name y Z) X.env)) (fun _ s'=>SP X pins D .next s') acc C) O hc cl1 cl2 hOK hg hcn he I2 T st2 f2 (fun z hz=>conv _ _ z _ _ I2.len (q z hz)) ?_
 intro Dl C H' s' I' ⟨g0,g1,g2,g3,g4,g5⟩ ⟨m,hm⟩ hq
 show Qq _ X.A (SS (.Name y Z) X.env (.ref Dl)) _ _ _
 refine OO (ZcC I' hN hiN hy (v:=.ref Dl) rfl (fun s'' I'' zz=>?_) hf)
 obtain ⟨a,sb,ha⟩:=zz
 have haC:C≠a:=by
  rcases ha with z | z
  ·rw [z];exact g1
  ·exact fun z'=>g4 y a z z'.symm
 exact ⟨m,hm.sameBut sb haC,fun h' hs'=>⟨_,H',I''.turned (t':=s''.toks) (fun b o hb e=>(hs'.2 b hb).trans e) g0 g1 g3 g4 g5,hq⟩⟩
end
theorem ok1:∀ σ z:St,(∃ w,z=σ++[w])->∃ B:St,B.length=[x].length/\z=σ++B:=fun _ _ ⟨w,e⟩=>⟨[w],rfl,e⟩
theorem set1 {n:Nat}(h:σ.length=n):(σ++[w]).set n v=σ++[v]:=by subst h;simp
theorem CompW.n {J:It}{te:TE}{σ:St}{D:Addr}{Q:VK}{H:Hp}{n:Nat}(hn:σ.length=n)(h:CompW J te σ D Q H):VJ J (UY n) tYes te 1 (fun σ B=>∃ w,B=σ++[w]) σ D Q H:=by
 obtain ⟨W,w0,t⟩:=h
 refine ⟨W,w0,fun i m ys H2 w2=>(t i m ys H2 w2).imp (fun z=>z) fun zz=>?_⟩
 obtain ⟨go,N,Z,I⟩:=zz
 refine ⟨go,N,fun _=>False,Z,fun _ z=>z.elim,fun Y v G hl y=>?_⟩
 match Y,hl with
 | [w],_ =>
  show (∃ w',(σ++[w]).set n (some v)=σ++[w'])/\te ((σ++[w]).set n (some v)) G N
  rw [set1 hn]
  exact ⟨⟨_,rfl⟩,I v G y⟩
section
variable {X:Cx}{elt iter:Expr}{x:Str}{px pos:Pos}{scope:Scope}{wi:TI}{te:TE}
theorem Zhq (O:CompOk X scope x):∀ G C B z fp,PG (Yh X scope [x] G C B z fp) (.Name x px) (UY X.N.length):=fun G C B z fp =>
 ZW (X:=Yh X scope [x] G C B z fp) O.nd (show (Uv X.N [x]++[x])[X.N.length]?=some x by rw [<- Zav X.N [x]];simp) (.inl (RM (O.loc x (mem_cons_self ..)))) (.inr (RM (O.loc x (mem_cons_self ..))))
theorem We (O:CompOk X scope x)(I:X.calm=true)(hi:PI X (.Name x px) iter wi)(W:∀ Y C B z fp,PE (Zdm X scope x Y C B z fp) elt te)
 (Z:∀ v,GL iter X.env v=pure v:=by intro _;rfl):PE X (.ListComp elt [⟨.Name x px,iter,[],0⟩] scope pos) (ZnV wi te) :=
 ZdM (CW:=fun J σ D Q H=>CompW J te σ D Q H) O I hi (fun _ _ _ _ _ G h=>h.n G) ok1 (Zhq O) (fun _ _ _ _ _=>.inl ⟨rfl,rfl⟩) W Z
end
theorem Zfx {lo:Int}{n:Nat}{te:TE}{σ:St}{D:Addr}{Q:VK}{H:Hp}(hn:n<=Qg)(z:Nat->List V->Hp->Prop)(J:z 0 [] (upd H D (.lst [])))
 (W:∀ i ys H,z i ys H->ys.length=i)
 (hs:∀ i ys H,i < n->z i ys H->te (σ++[some (.int (lo+i))]) H fun y G=>G D=some (.lst ys)/\z (i+1) (ys++[y]) (upd G D (.lst (ys++[y])))) (Z:∀ ys H,z n ys H->Q (.ref D) H):CompW (Itr lo n) te σ D Q H:=by
 refine ⟨fun i m ys H=>m=n - i/\i<=n/\z i ys H,⟨n,by simp,Qx _,J⟩,?_⟩
 rintro i m ys H2 ⟨rfl,hi,p⟩
 by_cases B:i < n
 ·have I:=W i ys _ p
  refine .inr ⟨B,_,fun y G (q:G D=some (.lst ys)/\z (i+1) (ys++[y]) (upd G D (.lst (ys++[y]))))=>⟨q.1,by omega,n - (i+1),by omega,rfl,B,q.2⟩,fun v H3 y=>?_⟩
  obtain ⟨e,Y⟩:=y
  subst e Y
  exact hs i ys _ B p
 ·have e:i=n:=by omega
  subst e
  exact .inl ⟨Qf _,Z ys H2 p⟩
theorem Zar {K:Qa}{a:Addr}{xs:List V}{te:TE}{σ:St}{D:Addr}{Q:VK}{H:Hp}(hn:xs.length<=Qg)(z:Nat->List V->Hp->Prop)(J:z 0 [] (upd H D (.lst [])))
 (W:∀ i ys H,z i ys H->ys.length=i/\SqT K H a xs)
 (Z:∀ i x ys H,xs[i]?=some x->z i ys H->te (σ++[some x]) H fun y G=>G D=some (.lst ys)/\z (i+1) (ys++[y]) (upd G D (.lst (ys++[y])))) (Y:∀ ys H,z xs.length ys H->Q (.ref D) H):CompW (Itt K a) te σ D Q H:=by
 refine ⟨fun i m ys H=>m=xs.length - i/\i<=xs.length/\z i ys H,⟨xs.length,by simp,Qx _,J⟩,?_⟩
 rintro i m ys H2 ⟨rfl,hi,p⟩
 obtain ⟨I,q⟩:=W i ys _ p
 by_cases B:i < xs.length
 ·refine .inr ⟨⟨xs,xs[i],q,by simp [B]⟩,_,fun y G (q:G D=some (.lst ys)/\z (i+1) (ys++[y]) (upd G D (.lst (ys++[y]))))=>⟨q.1,by omega,xs.length - (i+1),by omega,rfl,B,q.2⟩,fun v H3 y=>?_⟩
  obtain ⟨e,y⟩:=y
  subst e
  exact Z i v ys _ (y xs q) p
 ·have e:i=xs.length:=by omega
  subst e
  exact .inl ⟨⟨xs,q,Qf _⟩,Y ys H2 p⟩
section
variable {X:Cx}{tg:Expr}
end
section
variable {X:Cx}
theorem Wx:YH X (.builtin "isinstance") (fun xs H Q=>∃ x c t b,xs=[x,.ty c]/\Wn X.K H x t/\JC X.K t (.type c)=some b/\Q (.bl b) H):=by
 intro pins s σ H xs us Q I r h
 obtain ⟨x,c,t,b,rfl,ty,e,q⟩:=h
 obtain ⟨u,B,rfl,G,z⟩:=VZ r
 have J:B=SN c:=z
 subst J
 exact ZgS I G ty e fun tk=>⟨.bl b,H,I.tok tk,rfl,q⟩
theorem UT (hc:X.calm=true):YH X (.builtin "all") (fun xs H Q=>∃ (a:Addr) (bs:List Bool),xs=[.ref a]/\SqL X.K H a (bs.map V.bl)/\Q (.bl (bs.all id)) H):=by
 intro pins s σ H xs us Q I r h
 obtain ⟨a,bs,rfl,hq,q⟩:=h
 obtain ⟨u,rfl,ru⟩:=YQ r
 cases ru
 obtain ⟨G,rv,p,hz⟩:=I.list hq
 have B:=rv.length
 rw [length_map] at B
 have Z:a < s.heap.objs.size:=by obtain ⟨_,e,_⟩:=p.isList;exact Qi e
 refine call_all_walk (OQ p.isList ⟨s.heap.objs.size,_,_,_,_,_,fun i=>bs.getD i false,rfl,Walks.list (A:=X.A.in1) (I.ok.hd hc) s.heap.objs.size a (Qt Z) G.toArray,⟨⟨_,Ql _ rfl,rfl,rfl⟩,p.isList.push _⟩,?_,?_⟩)
 ·intro i v s' Q' E' hv hQ'
  have Y:G[i]?=some v:=by simpa using hv
  have hi:i < bs.length:=by
   have:=(Qj.mp Y).1
   omega
  obtain ⟨u,hu,ru⟩:=rv.get (i:=i) (x:=V.bl bs[i]) (by simp [hi])
  rw [Y] at hu
  cases hu
  have e:v=Jz bs[i]:=ru
  subst e
  have W:Q' (bs.getD i false) s':=hQ'
  rw [getD_eq_getElem?_getD,getElem?_eq_getElem hi] at W
  exact Ga W
 ·intro h' tk hk
  have e:(Gw G.toArray.size).all (fun i=>bs.getD i false)=bs.all id:=by
   rw [size_toArray,<- B]
   apply Jq.mpr
   rw [all_eq_true,all_eq_true]
   constructor
   ·intro z b hb
    obtain ⟨i,hi,rfl⟩:=List.mem_iff_getElem.mp hb
    have:=z i (mem_range.mpr hi)
    rwa [getD_eq_getElem?_getD,getElem?_eq_getElem hi] at this
   ·intro z i hi
    have J:=mem_range.mp hi
    rw [getD_eq_getElem?_getD,getElem?_eq_getElem J]
    exact z _ (Gp J)
  rw [e]
  refine ⟨.bl (bs.all id),H,I.kept (t':=tk) fun b o eb=>hk b o ?_ (Qd _ eb),rfl,q⟩
  intro hm
  have:b=s.heap.objs.size:=by simpa using hm
  rw [this] at eb
  exact absurd (Qi eb) (GR _)
theorem Zfd:∀{ys:List Str}{us:List Qc},Vals (ys.map V.str) us->Py us ys
 | [],_,.nil=>.nil
 | y::ys,_,.cons r t=>by obtain ⟨k,rfl⟩:=r;exact .cons _ _ (Zfd t)
theorem ZeP:MtR X "str.join" (fun x xs H Q=>∃ z a ys,x=.str z/\xs=[.ref a]/\SqL X.K H a (ys.map V.str)/\(ys.map (·.length)).sum+ys.length * z.length<=16777216/\Q (.str (Txt.join z ys)) H):=by
 intro pins s σ H x xs v us Q I J Y h
 obtain ⟨z,a,ys,rfl,rfl,Z,B,q⟩:=h
 obtain ⟨t,rfl⟩:=J
 obtain ⟨u,rfl,W⟩:=YQ Y
 cases W
 obtain ⟨G,r,p,_⟩:=I.list Z
 exact join_list p.isList (by simpa using Zfd r) B fun t' k=>⟨.str _,H,I.tok k,⟨_,rfl⟩,q⟩
theorem ZdW:SlR X (fun x lo hi H Q=>∃ z,x=.str z/\z.length<=Qg/\Q (.str (Txt.slice z lo hi)) H):=by
 intro pins s σ H x v vl vu lo hi sl Q I rx hs pl pu h
 obtain ⟨z,rfl,G,q⟩:=h
 obtain ⟨t,rfl⟩:=rx
 refine ⟨"str",_,F.slot_str_getitem.lookup,Ox _ _ _,?_⟩
 have B:∀ (t':Tok) (k:Nat),EP X pins σ Q (.str (Txt.slice z lo hi) t') { s with toks:=k }:=fun t' k=>⟨.str _,H,I.tok k,⟨_,rfl⟩,q⟩
 obtain ⟨o,J,W,Y⟩:=hs
 cases pl<;>cases pu
 ·exact Jb (l:=none) (u:=none) (st:=none) ⟨_,J,W,Y⟩ rfl (PU ⟨Qo (Txt.slice_le z _ _) G,B⟩)
 ·rename_i j uj
  exact Jb (l:=none) (u:=some (j,uj)) (st:=none) ⟨_,J,W,Y⟩ rfl (PU ⟨Qo (Txt.slice_le z _ _) G,B⟩)
 ·rename_i i Z
  exact Jb (l:=some (i,Z)) (u:=none) (st:=none) ⟨_,J,W,Y⟩ rfl (PU ⟨Qo (Txt.slice_le z _ _) G,B⟩)
 ·rename_i i Z j uj
  exact Jb (l:=some (i,Z)) (u:=some (j,uj)) (st:=none) ⟨_,J,W,Y⟩ rfl (PU ⟨Qo (Txt.slice_le z _ _) G,B⟩)
end
mutual
inductive DataOf (H:Hp):V->QM->Prop
 | non:DataOf H .non .none
 | bl (b):DataOf H (.bl b) (.bool b)
 | int (i):DataOf H (.int i) (.int i)
 | str (x):DataOf H (.str x) (.str x)
 | lst {a xs ds}:H a=some (.lst xs)->DatasOf H xs ds->DataOf H (.ref a) (.list ds)
 | tup {a xs ds}:H a=some (.tup xs)->DatasOf H xs ds->DataOf H (.ref a) (.tuple ds)
inductive DatasOf (H:Hp):List V->List QM->Prop
 | nil:DatasOf H [] []
 | cons {v d vs ds}:DataOf H v d->DatasOf H vs ds->DatasOf H (v::vs) (d::ds)
end
section
variable {P:Qk}{w:Qs}{H:Hp}{h:Heap}
mutual
theorem DataOf.reads (z:HOk P w H h):∀{v d}(u:Qc),DataOf H v d->RelV v u->d.hasDict=false/\∃ as,Reads h u d as
 | _,_,u,.non,r=>by cases (show u=.none from r);exact ⟨rfl,_,.none⟩
 | _,_,u,.bl b,r=>by cases (show u=.bool b from r);exact ⟨rfl,_,.bool b⟩
 | _,_,u,.int i,r=>by obtain ⟨t,e⟩:=(show ∃ t,u=.int i t from r);subst e;exact ⟨rfl,_,.int i t⟩
 | _,_,u,.str x,r=>by obtain ⟨t,e⟩:=(show ∃ t,u=.str x t from r);subst e;exact ⟨rfl,_,.str x t⟩
 | _,_,u,.lst (a:=a) (xs:=xs) e q,r=>by
  cases (show u=.ref a from r)
  obtain ⟨_,B,n,I,g⟩:=(show ObjOk P w H h a (.lst xs) from z a _ e)
  obtain ⟨J,as,G⟩:=DatasOf.reads z B q I
  exact ⟨by simpa [Pf] using J,_,.list g rfl rfl (by simpa using G)⟩
 | _,_,u,.tup (a:=a) (xs:=xs) e q,r=>by
  cases (show u=.ref a from r)
  obtain ⟨_,B,I,o,g,c,n,d⟩:=(show ObjOk P w H h a (.tup xs) from z a _ e)
  obtain ⟨J,as,G⟩:=DatasOf.reads z B q I
  exact ⟨by simpa [Pf] using J,_,.tuple g c d (by simpa using G)⟩
theorem DatasOf.reads (z:HOk P w H h):∀{vs ds}(us:List Qc),DatasOf H vs ds->Vals vs us->GN ds=false/\∃ as,ReadsAll h us ds as
 | _,_,_,.nil,.nil=>⟨rfl,_,.nil⟩
 | _,_,_,.cons r t,.cons rv tv=>by
  obtain ⟨G,as,I⟩:=DataOf.reads z _ r rv
  obtain ⟨B,bs,J⟩:=DatasOf.reads z _ t tv
  exact ⟨by simp [GN,G,B],_,.cons I J⟩
end
end
section
variable {X:Cx}
end
def Def (P:Qk)(w:Qs)(K:Qa)(mg:Str->Option Qc)(base:Heap)(k:Nat)(x:Str)(ps:List Str)(sp:Sp):Prop :=
 ∃ f fd,FnOk P w K mg base ZI k f fd ps sp/\Binds K fd ps []/\Ja K (.ref f)=true/\mg x=some (.ref f)
theorem Def.mono {P:Qk}{w:Qs}{K:Qa}{mg:Str->Option Qc}{base:Heap}{j k:Nat}{x:Str}{ps:List Str}{sp:Sp}(D:Def P w K mg base j x ps sp)(h:j<=k):Def P w K mg base k x ps sp :=
 let ⟨f,fd,F,b,kp,m⟩:=D;⟨f,fd,F.mono h,b,kp,m⟩
section
variable {X:Cx}{k:Nat}{x:Str}{ps:List Str}{sp:Sp}{p pos:Pos}{e:Expr}{es:List Expr}{t:TA}
theorem Zy (D:Def X.prog X.w X.K X.mg X.base k x ps sp)(J:Room k X.A)(W:PA X (e::es) t)(G:Gl X x:=by rfl)(z:(x == ("__debug__":Str))=false:=by decide)
 (I:QA (e::es) X.env=(false,eval e X.env)::QA es X.env:=by rfl) (B:(GZ pos (QA es X.env)).any (·.1)=false:=by rfl) :
 PE X (.Call (.Name x p) (e::es) [] pos) (Zgr sp [] E0 t):=by
 obtain ⟨f,fd,F,b,kp,m⟩:=D
 exact Zlh F J G m kp b .nil ZcQ W z I B
end
def Kp (p:Addr)(H H':Hp):Prop:=∀ q o,q≠p->H q=some o->H' q=some o
theorem Kp.trans (a:Kp p H H1)(b:Kp p H1 H2):Kp p H H2:=fun q o n h=>b q o n (a q o n h)
theorem Kp.upd (p:Addr)(H:Hp)(o:HO):Kp p H (upd H p o):=fun q u n h=>by rw [Zj n];exact h
theorem Same.kp (a:Same H H')(p:Addr):Kp p H H':=fun q o _ h=>a q o h
theorem Zv (h:H p=none)(o:HO):Same H (upd H p o):=fun b u q=>by rw [Zj (Zx q h)];exact q
def BoxAt (H:Hp)(p:Addr)(n:Nat):Prop:=∃ a b c:Int,H p=some (.lst [.int a,.int b,.int c])/\0<=a/\0<=c/\c<=n
theorem BoxAt.same {n:Nat}(h:BoxAt H p n)(s:Same H H'):BoxAt H' p n:=let ⟨a,b,c,e,r⟩:=h;⟨a,b,c,s _ _ e,r⟩
theorem BoxAt.le {n m:Nat}(h:BoxAt H p n)(l:n<=m):BoxAt H p m:=let ⟨a,b,c,e,h1,h2,h3⟩:=h;⟨a,b,c,e,h1,h2,by omega⟩
inductive VI (M:Int)(vs:List V)(H:Hp)(Q:VK)(w_3:XK):Prop
 | mk (p:Addr) (n:Nat) (m:Int):vs=[.ref p,.int m]->BoxAt H p n->n<=1000000->0 < m->m < M->(∀ (r:Int) (H':Hp),0<=r->r < m->BoxAt H' p (n+1)->Kp p H H'->Q (.int r) H')->VI M vs H Q w_3
inductive ZdX (K:Qa)(vs:List V)(H:Hp)(Q:VK)(w_3:XK):Prop
 | mk (a:Addr) (ns:List Int) (k:Int):vs=[.ref a,.int k]->SqL K H a (ns.map V.int)->0<=k->(∀ (r:Int),Q (.int r) H)->ZdX K vs H Q w_3
inductive Zgf (K:Qa)(vs:List V)(H:Hp)(Q:VK)(w_3:XK):Prop
 | mk (a:Addr) (ns:List Int) (k:Int):vs=[.ref a,.int k]->SqL K H a (ns.map V.int)->0<=k->k<=1000->(∀ (p:Addr) (H':Hp),H p=none->BoxAt H' p 0->Same H H'->Q (.ref p) H')->Zgf K vs H Q w_3
theorem ZfF {n:Nat}(h:n<=1000):n<=sizeLine:=JJ (ZhI h)
theorem Zba:∀ (rest:List Str) (z:Array Nat),(rest.foldl (fun z p=>z++(Qn "").cps++p.cps) z).toList=z.toList++rest.flatMap (·.cps.toList)
 | [],z=>by simp
 | p::r,z=>by
  have e:(Qn "").cps=#[]:=by decide +kernel
  rw [Rp,Zba r,Sd,e]
  simp
theorem WU:∀ ys:List Str,(Txt.join (Qn "") ys).cps.toList=ys.flatMap (·.cps.toList)
 | []=>rfl
 | y::r=>by
  show (Oy (fun z p=>z++(Qn "").cps++p.cps) y.cps r).toList=_
  rw [Zba];rfl
theorem Ye (x:Str):x.length=x.cps.toList.length:=by simp [Str.length]
theorem ZhC (s e:Int)(i j:Nat)(B:s=i)(z:e=j):OA s e 1=(Gw (j - i)).map (i+·):=by
 subst B z
 unfold OA
 simp only [show (1:Int) > 0 by decide,if_true]
 have G:(if (i:Int) < (j:Int) then ((j:Int) - i+1 - 1) / 1 else 0).toNat=j - i:=by
  split
  ·rw [SZ];omega
  ·omega
 rw [G]
 apply JO
 intro k I
 omega
theorem WH (z:Str)(lo hi:Option Int):(Txt.slice z lo hi).cps.toList=(z.cps.toList.drop (HT.sIx z.length 0 lo)).take (HT.sIx z.length z.length hi - HT.sIx z.length 0 lo):=by
 have key:Tf lo hi 1 z.length=(Gw (HT.sIx z.length z.length hi - HT.sIx z.length 0 lo)).map (HT.sIx z.length 0 lo+·):=by
  unfold Tf
  refine ZhC _ _ _ _ ?_ ?_
  ·cases lo with
   | none=>rfl
   | some i=>simp only [HT.sIx,show (1:Int) > 0 by decide,if_true];split<;>omega
  ·cases hi with
   | none=>rfl
   | some i=>simp only [HT.sIx,show (1:Int) > 0 by decide,if_true];split<;>omega
 have G:HT.sIx z.length z.length hi<=z.length:=HT.sIx_le _ _ (Qf _) hi
 unfold Txt.slice
 rw [key]
 split
 ·rename_i h
  simp only [beq_self_eq_true,Bool.true_and,length_map,List.length_range,beq_iff_eq] at h
  have h0:HT.sIx z.length 0 lo=0\/z.length=0:=by omega
  rcases h0 with h0 | h0
  ·rw [h0] at h ⊢
   rw [List.drop_zero,h,Ye,SF]
  ·have e:z.cps.toList=[]:=eq_nil_of_length_eq_zero (by rw [<- Ye];exact h0)
   rw [e];simp
 ·show (List.filterMap (fun k=>z.cps[k]?) ((Gw _).map _)).toArray.toList=_
  rw [Tr]
  generalize HT.sIx z.length 0 lo=i at *
  generalize HT.sIx z.length z.length hi - i=n at *
  have B:∀ (n i:Nat),List.filterMap ((fun k=>z.cps[k]?) ∘ (i+·)) (Gw n)=(z.cps.toList.drop i).take n:=by
   intro n
   induction n with
   | zero=>intro i;simp
   | succ n ih =>
    intro i
    rw [NW,RB,ih,take_add_one,OB]
    congr 1
    simp only [filterMap_cons,List.filterMap_nil,Function.comp,RC]
    cases z.cps[i+n]?<;>rfl
  rw [B]
theorem Vw (x y:Str):(x++y).cps.toList=x.cps.toList++y.cps.toList:=by
 show (x.cps++y.cps).toList=_
 simp
theorem YI (x y:Str):(x++y).length=x.length+y.length:=by rw [Ye,Vw,length_append,<- Ye,<- Ye]
def Ve (c:Nat):Bool:=decide (97<=c)&&decide (c<=122)
def sgn (c:Nat):Bool:=decide (32<=c)&&decide (c<=126)
theorem Zco {X:Cx}{K:Qa}(z:X.K=K):YH X (.builtin "len") (fun xs H Q=>∃ x n,xs=[x]/\Zif K x H n/\Q (.int n) H):=by subst z;exact Zik
@[reducible] def notStar:Expr->Bool
 | .Starred ..=>false
 | _=>true
theorem Zks {e:Expr}{es:List Expr}{env:Env}(h:notStar e=true):QA (e::es) env=(false,eval e env)::QA es env:=by
 cases e<;>first | rfl | cases h
section
variable {X:Cx}{k:Nat}{x:Str}{ps:List Str}{sp:Sp}{p pos:Pos}{e:Expr}{es:List Expr}{te:TE}{t:TA}
theorem YC (z:PE X e te)(B:PA X es t)(h:notStar e=true):PA X (e::es) (Xh te t):=Yq z B (Zks h)
theorem Zb (z:PE X e te)(B:PA X es t)(h:notStar e=true:=by rfl):PA X (e::es) (Xh te t):=Yq z B (Zks h)
end
section
variable {X:Cx}
theorem ZiT:YW X (JQ .FloorDiv) (rI (fun _ j=>0 < j/\j < 2 ^ 62) fun i j=>.int (i / j)):=opI fun i j _ _ _ _ _ z q=>by
 have h1:(0:Int) < j:=z.1
 have h2:j < 2 ^ 62:=z.2
 refine floordiv_int (by omega) (by rw [JA i (by omega)];exact q) (.inl (PyProof.noPylong_of_log2 ?_))
 have B:j.natAbs≠0:=by omega
 have G:j.natAbs < 2 ^ 9000:=QB (show j.natAbs < 2 ^ 62 by omega) (Nat.pow_le_pow_right (by decide) (by decide))
 exact (Nat.log2_lt B).mpr G
theorem ZdB:MtR X "str.index" (fun x xs H Q=>∃ z y,x=.str z/\xs=[.str y]/\0<=Txt.find z y/\Q (.int (Txt.find z y)) H):=by
 intro pins s σ H x xs v us Q I B J h
 obtain ⟨z,y,rfl,rfl,W,q⟩:=h
 obtain ⟨t,rfl⟩:=B
 obtain ⟨u,rfl,G⟩:=YQ J
 obtain ⟨t',rfl⟩:=G
 cases ho:Builtin.Str.occurrences z y 0 z.length 1 with
 | nil => have:Txt.find z y=-1:=by simp [Txt.find,ho]
          omega
 | cons i rest =>
   have e:Txt.find z y=i:=by simp [Txt.find,ho]
   rw [e] at q
   exact call_gives F.slot_str_index (Ox _ _ _) F.entry_str_index (F.args_str_index_2 _ _) (gives_str_index z y t t' i rest ho) ⟨.int i,H,I.tok _,⟨_,rfl⟩,q⟩
end
section
variable {X:Cx}
end
section
variable {X:Cx}{tg:Expr}
end
theorem ZaW {prog:Qk}{w:Qs}{A:QD}{B:Addr}{fp:List Addr}{n:Nat}{P:Nat->Qc->Prop}{St:Nat->Heap->Prop}(D:Draws prog w A B fp n P St) :
 Draws prog w A B fp (n+1) (fun i v=>∃ j,i=j+1/\P j v) (fun i h=>∃ j,i=j+1/\St j h) where
 live:=fun i h ⟨j,_,st⟩=>D.live j h st
 frame:=fun i h h' ⟨j,e,st⟩ k=>⟨j,e,D.frame j h h' st k⟩
 item:=fun i s Q E hi ⟨j,e,st⟩ J=>by
  subst e
  exact D.item j s Q E (by omega) st fun x h' tk p z I=>J x h' tk ⟨j,rfl,p⟩ ⟨j+1,rfl,z⟩ I
 done:=fun s Q E ⟨j,e,st⟩ G=>by
  have:n=j:=by omega
  subst this
  exact D.done s Q E st G
section
variable {prog:Qk}{w:Qs}{A:QD}{E:Qc->Qe->Prop}{s:Qe}
theorem Zaz (x:Str)(t t1:Tok) :
 Meets (Tg.«enumerate.__new__» ⟨[.type "enumerate",.str x t],[("start",.int 1 t1)]⟩) (fun _ R s =>
  R (.ok (.ret (.ref (s.heap.push { cls:=.type (GO x),data:=.fields #[.str x t,.int 0 0] }).objs.size)))
   {s with heap:=(s.heap.push { cls:=.type (GO x),data:=.fields #[.str x t,.int 0 0] }).push { cls:=.type "enumerate",data:=.fields #[.none,.bool false,.ref s.heap.objs.size,Jv 1,.none,.none] } }) :=
 .of_wp fun prog w A R s h=>by
  obtain ⟨hp,g,d,tk,os⟩:=s
  have z:=sub_enumerate
  wp_walk
  refine wpAny_stack_any fun st=>Qh ?_
  split
  ·rename_i c _ _ _ _ _
   cases (c == SN "enumerate")<;>(wp_walk using Ng;exact ⟨_,rfl,h⟩)
  ·wp_walk using Ng
   exact ⟨_,rfl,h⟩
end
section
variable {prog:Qk}{w:Qs}{A:QD}{E:Qc->Qe->Prop}{s:Qe}
theorem ZbM (Y:typeLookup (.type T) "__init__"=pure (some (.builtin "object.__init__")))(W:Bind.madeBy (.type T)=pure (some z))(B:(some z != some "object.__new__")=true):
 Meets (Tg.«object.__init__» ⟨[self,a],G⟩) (fun _ R s=>s.TypeIs self T/\R (.ok (.ret .none)) s):=by
 refine Meets.of_wp fun prog w A R s I=>?_
 obtain ⟨Z,J⟩:=I
 repeat (any_goals first | assumption | wp_step)
 exact ⟨_,rfl,J⟩
theorem Zdk {T I z:String}{Bn Bi:Tg}{args:List Qc}{Z:List (Str×Qc)}{S:PySem.Spec}{Q Q₁:Qc->Qe->Prop}(J:TypeCalled T I z)
 (hct:checkTypeCall T ⟨args,Z⟩=pure ()) (hcn:ND I ⟨.type T::args,Z⟩=pure ())
 (W:entryFor table I=some Bn) (Y:entryFor table z=some Bi) (g:Meets (Bn ⟨.type T::args,Z⟩) S) (h:S A.in1 (wants Q₁ E) s)
 (hnext:∀ obj B,Q₁ obj B->B.TypeIs obj T/\argsOk z ⟨obj::args,Z⟩/\∃ Si,Meets (Bi ⟨obj::args,Z⟩) Si/\Si A.in1 (wants (fun r s₂=>r=.none/\Q obj s₂) E) B) :
 Qq (Qw prog w) A (call (.type T) args Z) Q E s:=by
 obtain ⟨c,tl,hmro⟩:=J.mro
 have q1:=J.made
 have q2:=J.sub
 refine Ot (codeAny_of_tree (show Qq _ _ (callAny (.type T) _) _ _ _ from Qh ⟨Code.quiet_builtin _ (by decide +kernel),Rq F.entry_type_call ?_⟩))
 rw [Around.under_plain (weight_type_call_type T args Z) (units_type_call_type T args Z)]
 have q3:=J.notType
 have q4:=J.canCreate
 repeat (any_goals first | assumption | wp_step)
 refine Pb (RN J.plain W (Se hcn (g prog w A.in1 _ s h))) fun r B hr=>?_
 rcases r with e | fl
 ·exact hr
 ·cases fl with
  | ret obj =>
   obtain ⟨hT,hok,Si,gi,hsi⟩:=hnext _ _ hr
   have q5:=J.init.lookup
   have q6:=J.init.bind obj
   repeat (any_goals first | assumption | wp_step)
   refine Pb (RN J.init.plain Y (J.init.check _ _ _ _ _ _ _ _ hT hok (gi prog w A.in1 _ B hsi))) fun r₂ s₂ G=>?_
   rcases r₂ with e | fl₂
   ·exact G
   ·cases fl₂ with
    | ret r =>
     obtain ⟨rfl,hq⟩:=G
     repeat (any_goals first | assumption | wp_step)
    | _=>exact G.elim
  | _=>exact hr.elim
theorem Vv (a b:Qc):checkTypeCall "enumerate" ⟨[a],[("start",b)]⟩=pure ():=by kernel_rfl
theorem VE (a b:Qc):ND "enumerate.__new__" ⟨[.type "enumerate",a],[("start",b)]⟩=pure ():=by kernel_rfl
theorem Zbc (o a b:Qc):argsOk "object.__init__" ⟨[o,a],[("start",b)]⟩:=by
 unfold argsOk
 rw [signature?_of (id:="object.__init__") (n:=['_','_','t','i','n','i','_','_']) (o:=['t','c','e','j','b','o']) (by kernel_rfl) F.owner_object]
 kernel_rfl
theorem ZaQ (h:∀ h',IsEnum h' (s.heap.objs.size+1) s.heap.objs.size 1 .none->h'.IsStrIter s.heap.objs.size (GO x) x t 0->h'.objs.size=s.heap.objs.size+2 ->
  (∀ b o,s.heap.get? b=some o->h'.get? b=some o)->Q (.ref (s.heap.objs.size+1)) { s with heap:=h' }):
 Qq (Qw prog w) A (call (.type "enumerate") [.str x t] [("start",.int 1 t1)]) Q E s:=by
 have J:=F.called_enumerate
 refine Zdk (Q₁:=fun obj z=>z.TypeIs obj "enumerate"/\Q obj z) J (Vv _ _) (VE _ _) F.entry_enumerate_new F.entry_object_init (Zaz x t t1) ?_
  (fun obj z Y=>⟨Y.1,Zbc obj _ _,_,ZbM J.init.lookup J.made (by decide),Y.1,rfl,Y.2⟩)
 generalize Z:({ cls:=.type (GO x),data:=.fields #[.str x t,.int 0 0] }:Obj)=O
 have I:(s.heap.push O).objs.size=s.heap.objs.size+1:=Gj ..
 generalize B:({ cls:=.type "enumerate",data:=.fields #[.none,.bool false,.ref s.heap.objs.size,Jv 1,.none,.none] }:Obj)=G
 have W:((s.heap.push O).push G).get? (s.heap.objs.size+1)=some G:=by
  have e:=Ql (s.heap.push O) (o:=G) (by rw [<- B];rfl)
  rw [I] at e;exact e
 have hi:((s.heap.push O).push G).get? s.heap.objs.size=some O:=Qd _ (Ql _ (by rw [<- Z];rfl))
 have key:Oi { s with heap:=(s.heap.push O).push G } (.ref (s.heap.objs.size+1)) "enumerate"/\Q (.ref (s.heap.objs.size+1)) { s with heap:=(s.heap.push O).push G }:=by
  refine ⟨⟨G,W,by rw [<- B]⟩,h _ (by rw [<- B] at W ⊢;exact W) ⟨O,hi,by rw [<- Z],by rw [<- Z];rfl⟩ (by rw [Gj,I]) fun b o y=>Qd _ (Qd _ y)⟩
 rw [<- I] at key
 exact key
end
theorem Inv.turned2 {X:Cx}{pins:List (Addr×Obj)}{σ:St}{H:Hp}{s:Qe}{h':Heap}{t':Nat}{fp:List Addr}(I:Inv X pins σ H s)(k:∀ b o,b ∉ fp->s.heap.get? b=some o->h'.get? b=some o)(J:∀ b∈fp,Xz X pins H b) :
 Inv X pins σ H { s with heap:=h',toks:=t' }:=by
 have G:∀ b u,H b=some u->b ∉ fp:=fun b u e z=>by rw [(J b z).1] at e;cases e
 refine I.step (g':=s.gens) (d':=s.drawn) (ch:=fp) (fun b hb=>?_) (fun b o _ _ B e _=>k b o B e) (fun b o _ _ B e _=>⟨o.slots,k b o B e⟩) (fun _ _ _ _ n=>n)
  (fun b o B e=>⟨o,k b o B e⟩) (fun _ _ e=>e) (fun _ _ _ e=>e) (fun b ps e=>⟨#[],by rw [e];simp⟩) (fun m Z=>?_) (fun b u e=>?_) I.bare
 ·obtain ⟨f0,f1,f2,Y,f4,W⟩:=J b hb
  exact ⟨Y,f1,f4,W⟩
 ·obtain ⟨o,es,ep,ho,r⟩:=Z
  exact ⟨o,es,ep,k _ o (fun z=>(J _ z).2.1 rfl) ho,r⟩
 ·refine (I.hok b u e).stay (fun c v B q=>k c v ?_ q) (fun _ q=>q) fun _ _ q=>q
  rcases B with z | z
  ·rw [z];exact G b u e
  ·exact G c _ z
theorem Zcq {prog:Qk}(B:A.handled=none)(z:Addr)(x:Str)(t:Tok):
 Draws prog w A z [z] x.cps.size (fun i v=>∃ c u,x.cps[i]?=some c/\v=.str ⟨#[c]⟩ u) (fun i h=>h.IsStrIter z (GO x) x t i):=by
 cases ha:x.cps.all (· < 128)
 ·have e:GO x="str_iterator":=by simp [GO,ha]
  rw [e];exact Draws.strWide B z x t
 ·have e:GO x="str_ascii_iterator":=by simp [GO,ha]
  rw [e];exact Draws.strAscii B z x t
def Ite (x:Str):It:=⟨fun i _=>i < x.cps.size,fun i H v H'=>∃ t c,H t=none/\x.cps[i]?=some c/\v=.ref t/\H'=upd H t (.tup [.int ((i:Int)+1),.str ⟨#[c]⟩]),fun i _=>x.cps.size<=i⟩
theorem ZhZ {P:Qk}{w:Qs}{K:Qa}{elts:List Expr}{x1:Nat}{tp:Pos}(x:Str)(t:Tok)(e G:Addr)(Y:e≠G) :
 UR P w K (.Tuple elts x1 tp) (Ite x) [e,G] e (fun i h=>(∃ B,IsEnum h e G ((i:Int)+1) B)/\h.IsStrIter G (GO x) x t i/\i<=x.cps.size) where
 mem:=by simp
 obj:=fun i h st b hb=>by
  obtain ⟨⟨B,J⟩,⟨o,W,c,d⟩,_⟩:=st
  rcases mem_cons.mp hb with q | hb
  ·rw [q];exact ⟨_,J,fun v z=>by cases z⟩
  ·rw [mem_singleton.mp hb];exact ⟨o,W,fun v z=>by rw [d] at z;cases z⟩
 keep:=fun i h h' st k=>by
  obtain ⟨⟨B,J⟩,⟨o,W,r⟩,hi⟩:=st
  exact ⟨⟨B,k e (by simp) _ J⟩,⟨o,k G (by simp) o W,r⟩,hi⟩
 item:=by
  intro X hP hw hK hc i pins s σ H E I hf st hg
  subst hP hw hK
  obtain ⟨⟨B,J⟩,hs,hi⟩:=st
  have hlt:i < x.cps.size:=hg
  have D:=ZaW (Zcq (prog:=X.prog) (w:=X.w) (A:=X.A.in1) (I.ok.hd hc) G x t)
  refine SG (i:=i+1) D (show IsEnum s.heap e G ((i+1:Nat):Int) B from J) ⟨i,rfl,hs⟩ (by omega) Y (by simpa using Y) fun v h' tk hP hOut hst hT hsz hk=>?_
  obtain ⟨j,ej,c,u,hcc,rfl⟩:=hP
  have Z:i=j:=by omega
  subst Z
  obtain ⟨j,ej,hst⟩:=hst
  have Z:i+1=j:=by omega
  subst Z
  have hel:e < s.heap.objs.size:=Qi J
  have hil:G < s.heap.objs.size:=by obtain ⟨o,W,_⟩:=hs;exact Qi W
  refine ⟨_,rfl,Tw hOut fun h2 he2 hs2=>?_⟩
  generalize hO:({ cls:=.type "tuple",data:=.seq #[.int ((i+1:Nat):Int) tk,.str ⟨#[c]⟩ u] }:Obj)=O at hT
  have I1:Inv X pins σ (upd H s.heap.objs.size (.tup [.int ((i:Int)+1),.str ⟨#[c]⟩])) { s with heap:=s.heap.push O,toks:=tk+1 }:=by
   refine I.laid (t':=tk+1) (fun b o y=>Qd _ y) (Qf _) (show ObjOk X.prog X.w _ _ _ (.tup _) from ⟨by show 2<=Qg;decide,[.int ((i+1:Nat):Int) tk,.str ⟨#[c]⟩ u],.cons ⟨tk,rfl⟩ (.cons ⟨u,rfl⟩ .nil),?_⟩)
   rw [<- hO];exact Pp _ _
  have hfree:=I.hok.fresh (Qf s.heap.objs.size)
  have hf2:∀ b∈[e,G],Xz X pins (upd H s.heap.objs.size (.tup [.int ((i:Int)+1),.str ⟨#[c]⟩])) b:=fun b hb=>by
   obtain ⟨f0,f1⟩:=hf b hb
   have hb':b≠s.heap.objs.size:=by
    rcases mem_cons.mp hb with q | hb
    ·rw [q];exact Qt hel
    ·rw [mem_singleton.mp hb];exact Qt hil
   exact ⟨by rw [Zj hb'];exact f0,f1⟩
  have I2:Inv X pins σ (upd H s.heap.objs.size (.tup [.int ((i:Int)+1),.str ⟨#[c]⟩])) { s with heap:=h2,toks:=tk+1 }:=by
   refine I1.turned2 (t':=tk+1) (h':=h2) (fun b o hb y=>?_) hf2
   have hbe:b≠e:=fun q=>hb (by simp [q])
   have hbi:b≠G:=fun q=>hb (by simp [q])
   rw [hs2.2 b hbe]
   rcases JE y with ⟨q1,q2⟩ | y
   ·rw [q1,q2];exact hT
   ·exact hk b o hbe hbi y
  refine ⟨.ref s.heap.objs.size,_,I2,rfl,⟨s.heap.objs.size,c,hfree,hcc,rfl,rfl⟩,⟨⟨_,he2⟩,?_,hlt⟩,fun b hb=>(hf2 b hb).1⟩
  obtain ⟨o,W,r⟩:=hst
  exact ⟨o,by rw [hs2.2 G Y.symm];exact W,r⟩
 done:=by
  intro X hP hw hK hc i pins s σ H E I hf st hg
  subst hP hw hK
  obtain ⟨⟨B,J⟩,hs,hi⟩:=st
  have hle:x.cps.size<=i:=hg
  have D:=ZaW (Zcq (prog:=X.prog) (w:=X.w) (A:=X.A.in1) (I.ok.hd hc) G x t)
  have ei:i=x.cps.size:=by omega
  rw [ei] at hs
  obtain ⟨f0,f1,f2,f3,f4,f5⟩:=hf G (by simp)
  exact wpAny_pyNext_enum_endD D J ⟨_,rfl,hs⟩ fun h' eb=>⟨rfl,I.turned (t':=s.toks) (fun b o hb y=>eb b o hb y) f0 f1 f3 f4 f5⟩
 self:=fun _ _ _ _ _ st h=>by
  obtain ⟨⟨B,J⟩,_⟩:=st
  exact Pg J h
theorem Zap (h1:args.any (·.1)=false)(h2:kws.any (·.1.isNone)=false)(h:Qq M A (evalArgs (.type T) true args kws) (fun a z=>Qq M A (call (.type T) a.pos a.kw) Q E z) E s):Qq M A (RJ pos (.type T) [] args kws) Q E s:=by
 unfold RJ
 refine Qb (QS (Zw h fun a z q=>Qb (GT ?_)))
 simp only [h1,h2,Bool.or_false]
 refine Qb (Qh (Qb (Zw q fun r B G=>?_)))
 exact Qb (QS (wpAny_point (Qh G)))
def Zmi (tl:TE):TI:=fun σ H R=>tl σ H fun v H1=>∃ x,[v]=[V.str x]/\R (Ite x) H1
section
variable {X:Cx}
theorem Zjd {x1 j:Nat}(hg:Gl X "enumerate")(hm:X.mg "enumerate"=none)(hl:PE X l tl)(Y:QA [l] X.env=[(false,eval l X.env)]:=by rfl):PI X (.Tuple G x1 tp) (.Call (.Name "enumerate" p) [l] [⟨some "start",.Constant (.int 1) j kp,kpos⟩] pos) (Zmi tl):=by
 intro pins s σ H R I h
 have ha:PA X [l] (Xh tl Wa):=Yq hl Za Y
 have hk:PK X [⟨some "start",.Constant (.int 1) j kp,kpos⟩] (Xh (tC (.int 1)) Wa):=Zln Zc ZmL
 refine Gb (Wp I hg hm boot_enumerate (Zap (by rw [Y];rfl) rfl (evalArgs_kw2 rfl ?_ Y)))
 refine Zw (ha pos pins s σ H (fun vs H1=>∃ x,vs=[V.str x]/\R (Ite x) H1) I h) fun us s1 J=>?_
 obtain ⟨vs,H1,I1,r1,x,e,q⟩:=J
 subst e
 obtain ⟨u,rfl,t,rfl⟩:=YQ r1
 refine Zw (hk pos pins s1 σ H1 (fun vs H2=>vs=[V.int 1]/\H2=H1) I1 ⟨rfl,rfl⟩) fun ws s2 J=>?_
 obtain ⟨zs,H2,B,r2,e1,e2⟩:=J
 subst e1 e2
 obtain ⟨u',rfl,t',rfl⟩:=YQ r2
 refine ZaQ fun h' hE W hsz Z=>Pg hE ?_
 refine ⟨s2.heap.objs.size+1,[s2.heap.objs.size+1,s2.heap.objs.size],_,_,H2,rfl,B.kept (t':=s2.toks) Z,ZhZ x t _ _ (NE _),⟨⟨_,hE⟩,W,Qx _⟩,fun b hb=>?_,q⟩
 rcases mem_cons.mp hb with z | hb
 ·rw [z];exact B.fpOk (JD _) (B.hok.fresh (JD _))
 ·rw [mem_singleton.mp hb];exact B.fpOk (Qf _) (B.hok.fresh (Qf _))
end
theorem Ziq {x:Str}{g:TG}{tb:TS}{D:YA}{σ:St}{H:Hp}(B:Nat->St->Hp->Prop)(h0:B 0 σ H)
 (hs:∀ i c t σ H,x.cps[i]?=some c->H t=none->B i σ H->g (.ref t) σ (upd H t (.tup [.int ((i:Int)+1),.str ⟨#[c]⟩])) fun I H2=>tb { D with nx:=B (i+1),ct:=B (i+1),bk:=D.nx } I H2) (hd:∀ σ H,B x.cps.size σ H->D.nx σ H) :
 ∃ W:Nat->Nat->St->Hp->Prop,(∃ m,W 0 m σ H)/\∀ i m σ H,W i m σ H ->
  ((Ite x).stop i H/\D.nx σ H)\/((Ite x).go i H/\∃ N:St->Hp->Prop,(∀ G H',N G H'->∃ Y,Y < m/\W (i+1) Y G H')/\∀ y H',(Ite x).yld i H y H'->g y σ H' fun I H2=>tb { D with nx:=N,ct:=N,bk:=D.nx } I H2):=by
 refine ⟨fun i m σ H=>m=x.cps.size - i/\i<=x.cps.size/\B i σ H,⟨x.cps.size,by simp,Qx _,h0⟩,?_⟩
 rintro i m σ H ⟨rfl,hi,p⟩
 by_cases J:i < x.cps.size
 ·refine .inr ⟨J,B (i+1),fun G H' Z=>⟨x.cps.size - (i+1),by omega,rfl,J,Z⟩,fun y H' z=>?_⟩
  obtain ⟨t,c,e1,e2,e3,e4⟩:=z
  subst e3 e4
  exact hs i c t σ _ e2 e1 p
 ·have e:i=x.cps.size:=by omega
  subst e
  exact .inl ⟨Qf _,hd σ H p⟩
end L2
namespace L2
open PySem PySem.W PySem.Spec PyProof.Rows
def Zan (ks:List Str)(vs out:List Qc):Prop:=∃ ps:List (Str×Qc),ps.Perm (ks.zip vs)/\out=ps.map (·.2)/\ps.Pairwise fun p q=>¬ (q.1.cps.toList < p.1.cps.toList)
theorem Zes:∀{keys:List Qc}{ks:List Str}(_:Py keys ks)(vs:List Qc),(keys.zip vs).map (fun p=>(strOf p.1,p.2))=ks.zip vs
 | _,_,.nil,vs=>rfl
 | _,_,.cons x t h,[]=>rfl
 | _,_,.cons x t h,v::vs=>by
  rw [List.zip_cons_cons,map_cons,Zes h vs];rfl
theorem ZiV {keys:Array Qc}{vs:List Qc}{ks:List Str}(Z:Py keys.toList ks){xs:Array Keyed}(hp:xs.Perm (keys.zip vs.toArray))(hs:SortedToK strKind xs xs.size):Zan ks vs (xs.map (·.2)).toList:=by
 have Y:xs.toList.Perm (keys.toList.zip vs):=by
  have:=Array.perm_iff_toList_perm.mp hp
  rwa [ksk_zip] at this
 refine ⟨xs.toList.map fun p=>(strOf p.1,p.2),?_,?_,?_⟩
 ·have:=Y.map fun p=>(strOf p.1,p.2)
  rwa [Zes Z] at this
 ·rw [Array.toList_map,map_map];rfl
 ·rw [Ph,List.pairwise_iff_getElem]
  intro i j hi hj I
  have J:i < xs.size:=by simpa using hi
  have G:j < xs.size:=by simpa using hj
  have z:∀ m (W:m < xs.size),KK strKind xs m=(strOf xs[m].1).cps.toList:=fun m W=>by
   have B:xs[m]∈keys.toList.zip vs:=Y.mem_iff.mp (by simp)
   have h1:=(of_mem_zip (show (xs[m].1,xs[m].2)∈_ from B)).1
   obtain ⟨x,t,e⟩:=Z.all _ h1
   rw [KK_str W (x:=x) (t:=t) (q:=xs[m].2) (by rw [<- e])]
   rw [e];rfl
  have h:=hs i j (JJ I) G
  rw [z i J,z j G] at h
  simpa [KeyOrd.kle] using h
theorem ZgX {keys:Array Qc}{vs:List Qc}{ks:List Str}(z:Py keys.toList ks):KeysOf strKind (keys.zip vs.toArray):=by
 intro p hp
 rw [ksk_zip] at hp
 obtain ⟨x,t,e⟩:=z.all _ (of_mem_zip (show (p.1,p.2)∈_ from hp)).1
 exact ⟨x.cps.toList,by rw [e]⟩
theorem ZgY (z:Py keys.toList ks)(h2:2<=keys.size):keyKind' keys=pure oneType':=by
 obtain ⟨l⟩:=keys
 match l,z,h2 with
 | [],_,h2=>simp at h2
 | [_],_,h2=>simp at h2
 | v₁::v₂::r,z,_=>exact keyKind_strs z
theorem ZcB :∀{vs:List Qc}{z:List Str},Py vs z->Py (vs++[.str x t]) (z++[x])
 | _,_,.nil=>.cons x t .nil
 | _,_,.cons y u h=>.cons y u (ZcB h)
section
variable {prog:Qk}{w:Qs}{A:QD}{E:Qc->Qe->Prop}{s:Qe}{a kS:Addr}{vs:List Qc}{ks:List Str}{keys:Array Qc}{e e1:Nat}{P:PySem.Fin->Qe->Prop}
theorem Zbs {st:SortSt}(nk:s.heap.get? kS=some (Gk "list" keys e))(na:s.heap.get? a=some (Gk "list" #[] e1))(I:kS≠a)(hk:Py keys.toList ks)(hlen:ks.length=vs.length)(h64:vs.length < 64)
 (hp:(Oj st).Perm (keys.zip vs.toArray)) (hs:SortedToK strKind (Oj st) (Oj st).size) (Z:failedOf st=none)
 (h:∀ h' tk G c,(∀ b o,b≠a->b≠kS->s.heap.get? b=some o->h'.get? b=some o)->h'.get? a=some (Gk "list" G c)->Zan ks vs G.toList->P (.done (.ret .none)) { s with heap:=h',toks:=tk }) :
 Qq (Qw prog w) A (ksk_tail a false e1 (.ref kS) st) P E s:=by
 have hsz:keys.size=vs.length:=by have:=hk.length;rw [GA] at this;omega
 have B:(Oj st).size=vs.length:=by rw [hp.size_eq,Array.size_zip,hsz,size_toArray,Nh]
 have s1:=GB s.heap kS (QT fun _=>(#[]:Array Qc))
 have z:(s.heap.update kS (QT fun _=>(#[]:Array Qc))).get? a=some (Gk "list" #[] e1):=(s1.2 a I.symm).trans na
 have s2:=GB (s.heap.update kS (QT fun _=>(#[]:Array Qc))) a (QT fun _=>(Oj st).map (·.2))
 obtain ⟨W,hc2⟩:∃ W,((s.heap.update kS (QT fun _=>(#[]:Array Qc))).update a (QT fun _=>(Oj st).map (·.2))).get? a=some (Gk "list" ((Oj st).map (·.2)) W):=⟨_,Rt z fun _=>(Oj st).map (·.2)⟩
 unfold ksk_tail
 try dsimp only
 refine Qb (Pz nk rfl ?_ (by rw [hsz,Gg];omega) (Qx _))
 refine Qb (Sf (Qb (seqEpoch_at z rfl ?_)))
 refine Qb (Pz z rfl ?_ (Qx _) (Qo (Td (show ((Oj st).map (·.2)).size=vs.length by rw [Array.size_map];exact B)) (by rw [Gg];omega)))
 rw [Z]
 simp only [bne_self_eq_false,Jj,if_false]
 exact Qh (h _ _ _ W (fun b o Y J y=>(s2.2 b Y).trans ((s1.2 b J).trans y)) hc2 (ZiV hk hp hs))
theorem ZhK (nk:s.heap.get? kS=some (Gk "list" keys e))(na:s.heap.get? a=some (Gk "list" #[] e1))(J:kS≠a)(W:Py keys.toList ks)(B:ks.length=vs.length)(I:vs.length < 64)
 (h:∀ h' tk Y c,(∀ b o,b≠a->b≠kS->s.heap.get? b=some o->h'.get? b=some o)->h'.get? a=some (Gk "list" Y c)->Zan ks vs Y.toList->P (.done (.ret .none)) { s with heap:=h',toks:=tk }) :
 Qq (Qw prog w) A (ksk_end a false vs.toArray e1 (.ref kS) keys) P E s:=by
 have hsz:keys.size=vs.length:=by have:=W.length;rw [GA] at this;omega
 have G:(keys.zip vs.toArray).size=vs.length:=by rw [Array.size_zip,hsz,size_toArray,Nh]
 unfold ksk_end
 simp only [Jj,if_false]
 by_cases h2:vs.toArray.size < 2
 ·rw [if_pos h2,if_pos h2]
  refine Qb (Qh ?_)
  rw [StateT.run_pure]
  refine Qb (Qh ?_)
  try dsimp only
  refine Zbs (st:=SortSt.mk' general' (keys.zip vs.toArray) #[] 7 none) nk na J W B I (NX _) ?_ rfl h
  intro i j hij hj
  have Z:j < (keys.zip vs.toArray).size:=hj
  rw [G] at Z
  rw [size_toArray] at h2
  have:i=j:=by omega
  subst this
  exact KeyOrd.kle_refl _
 ·rw [if_neg h2,if_neg h2]
  rw [size_toArray] at h2
  rw [ZgY W (by rw [hsz];omega)]
  refine Qb (Qh (Qb (GE (wpS_sortRunsK (κ:=strKind) strKind_oneLt (a₀:=keys.zip vs.toArray) (st:=SortSt.mk' oneType' (keys.zip vs.toArray) #[] 7 none)
   (Q:=fun _ z=>(Oj z).Perm (keys.zip vs.toArray)/\failedOf z=none/\SortedToK strKind (Oj z) (keys.zip vs.toArray).size)
   (ZgX W) ⟨NX _,rfl,rfl,rfl⟩ (by rw [G];omega) (by rw [G];exact I) fun z a1 a2 a3=>⟨a1,a2,a3⟩) ?_ fun _ _ y=>y)))
  rintro ⟨⟨⟩,z⟩ s' ⟨rfl,hp,hf,hs⟩
  try dsimp only
  exact Zbs nk na J W B I hp (by rw [hp.size_eq];exact hs) hf h
def ZbB (prog:Qk)(w:Qs)(A:QD)(s:Qe)(a:Addr)(f:Qc)(vs:List Qc)(ks:List Str):Prop :=
 ∀ (i:Nat) (v:Qc) (k:Str),vs[i]?=some v->ks[i]?=some k->∀ (h:Heap) (tk:Nat),(∀ b o,b≠a->s.heap.get? b=some o->h.get? b=some o)->s.heap.objs.size<=h.objs.size->∀ Q':Qc->Qe->Prop,
  (∀ h' tk' t,(∀ b o,h.get? b=some o->h'.get? b=some o)->h.objs.size<=h'.objs.size->Q' (.str k t) { s with heap:=h',toks:=tk' })->Qq (Qw prog w) A (call f [v]) Q' (fun _ _=>False) { s with heap:=h,toks:=tk }
theorem Zgc {s0:Qe}(Z:∃ tk,s={ s0 with heap:=s.heap,toks:=tk })(k0:∀ b o,b≠a->s0.heap.get? b=some o->s.heap.get? b=some o)(z0:s0.heap.objs.size<=s.heap.objs.size)(hkn:s0.heap.objs.size<=kS)(nk:s.heap.get? kS=some (Gk "list" #[] 0))(na:s.heap.get? a=some (Gk "list" #[] e1))(hka:kS≠a)(hlen:ks.length=vs.length)(h64:vs.length < 64)(turn:ZbB prog w A s0 a f vs ks)(h:∀ h' tk W c,(∀ b o,b≠a->s0.heap.get? b=some o->h'.get? b=some o)->h'.get? a=some (Gk "list" W c)->Zan ks vs W.toList->P (.done (.ret .none)) { s0 with heap:=h',toks:=tk }):
 Qq (Qw prog w) A (ksk_rest a f false vs.toArray e1 (.ref kS)) P E s:=by
 obtain ⟨tk0,Z⟩:=Z
 unfold ksk_rest
 refine Qb (Jh ?_)
 first
  | rw [List.forIn_toArray]
  | (rw [<- Array.forIn_toList];simp only [List.toList_toArray])
 refine Qb (ksk_fold (fun i s'=>∃ h' tk G c,s'={ s0 with heap:=h',toks:=tk }/\(∀ b o,b≠a->s0.heap.get? b=some o->h'.get? b=some o)/\s0.heap.objs.size<=h'.objs.size/\h'.get? kS=some (Gk "list" G c)/\h'.get? a=some (Gk "list" #[] e1)/\Py G.toList (ks.take i)) vs 0 s
  ⟨s.heap,tk0,#[],0,Z,k0,z0,nk,na,by simpa using StrsAre.nil⟩ ?step ?done)
 case step =>
  rintro j x s' hx ⟨h',tk,G,c,rfl,k1,z1,J,Y,hk⟩
  simp only [Nat.zero_add] at hk ⊢
  have hj:j < vs.length:=(Qj.mp hx).1
  obtain ⟨k,hkj⟩:∃ k,ks[j]?=some k:=⟨_,getElem?_eq_getElem (by omega)⟩
  have hz:G.size<=vs.length:=by
   have h1:=hk.length
   rw [GA,length_take] at h1
   omega
  refine Qb (Sr (GE (turn j x k hx hkj h' tk k1 z1 (fun v s''=>∃ g I B,v=.str k B/\s''={ s0 with heap:=g,toks:=I }/\(∀ b o,h'.get? b=some o->g.get? b=some o)/\h'.objs.size<=g.objs.size) (fun g I B q z=>⟨g,I,B,rfl,rfl,q,z⟩)) (fun v s'' he=>?_) fun _ _ hF=>hF.elim))
  obtain ⟨g,I,B,rfl,rfl,k2,z2⟩:=he
  try dsimp only
  have nk2:=k2 _ _ J
  have na2:=k2 _ _ Y
  have s1:=GB g kS (QT (·.push (.str k B)))
  obtain ⟨c2,hc2⟩:∃ c2,(g.update kS (QT (·.push (.str k B)))).get? kS=some (Gk "list" (G.push (.str k B)) c2):=⟨_,Rt nk2 (·.push (.str k B))⟩
  have ek:ks.take (j+1)=ks.take j++[k]:=by rw [take_add_one,hkj];simp
  have ea:(G.push (JH k B)).toList=G.toList++[JH k B]:=by simp
  refine Qb (Pz nk2 rfl ?_ (by rw [Gg];omega) (Qo (Td (Array.size_push ..)) (by rw [Gg];omega)))
  refine Qh ⟨rfl,_,_,G.push (.str k B),c2,rfl,fun b o hb y=>?_,Qo (Qo z1 z2) (Td (SH ..).symm),hc2,(s1.2 a hka.symm).trans na2,by rw [ea,ek];exact ZcB hk⟩
  exact (s1.2 b (fun z=>by rw [z] at y;exact absurd (Qi y) (Oz.mpr hkn))).trans (k2 _ _ (k1 b o hb y))
 case done =>
  rintro s' ⟨h',tk,G,c,rfl,k1,z1,J,Y,hk⟩
  have hk':Py G.toList ks:=by
   have e3:ks.take (0+vs.length)=ks:=take_of_length_le (by omega)
   rw [e3] at hk
   exact hk
  try dsimp only
  refine Qb (Ni J rfl ?_)
  refine ZhK J Y hka hk' hlen h64 fun h3 tk3 W c3 k3 a3 o3=>h h3 tk3 W c3 (fun b o hb y=>k3 b o hb (fun z=>?_) (k1 b o hb y)) a3 o3
  rw [z] at y
  exact absurd (Qi y) (Oz.mpr hkn)
theorem Zgd {n:Nat}(W:s.heap.get? a=some (Gk "list" vs.toArray n))(J:ks.length=vs.length)(Y:vs.length < 64)(B:ZbB prog w A s a f vs ks)(h:∀ h' tk I c,(∀ b o,b≠a->s.heap.get? b=some o->h'.get? b=some o)->h'.get? a=some (Gk "list" I c)->Zan ks vs I.toList->P (.done (.ret .none)) { s with heap:=h',toks:=tk }):
 Qq (Qw prog w) A (ksk_tree a f false) P E s:=by
 have ha:a < s.heap.objs.size:=Qi W
 have s1:=GB s.heap a (QT fun _=>(#[]:Array Qc))
 obtain ⟨e1,G⟩:∃ e1,(s.heap.update a (QT fun _=>(#[]:Array Qc))).get? a=some (Gk "list" #[] e1):=⟨_,Rt W fun _=>#[]⟩
 have z:((s.heap.update a (QT fun _=>(#[]:Array Qc))).push (Gk "tuple" vs.toArray 0)).objs.size=s.heap.objs.size+1:=by rw [OC,SH]
 unfold ksk_tree
 refine Qb (Ni W rfl ?_)
 refine Qb (Pz W rfl ?_ (by rw [size_toArray,Gg];omega) (Qx _))
 refine Qb (seqEpoch_at G rfl (Qb (wpAny_newTuple ?_ (by show vs.length<=_;rw [Gg];omega))))
 refine Qb (wpAny_newList ?_ (Qx _))
 refine QS ?_
 refine Zgc (s0:=s) (s:={ s with heap:=((s.heap.update a (QT fun _=>(#[]:Array Qc))).push (Gk "tuple" vs.toArray 0)).push (Gk "list" #[] 0) }) (kS:=((s.heap.update a (QT fun _=>(#[]:Array Qc))).push (Gk "tuple" vs.toArray 0)).objs.size)
  ⟨s.toks,rfl⟩ (fun b o Z y=>Qd _ (Qd _ ((s1.2 b Z).trans y))) ?_ (by rw [z];exact JD _) (Ql _ rfl) (Qd _ (Qd _ G)) (by rw [z];exact GC (Jy ha)) J Y B h
 show s.heap.objs.size<=(((s.heap.update a _).push _).push _).objs.size
 rw [OC,z];omega
theorem Zlx (hl:s.heap.IsList l vs.toArray)(J:ks.length=vs.length)(W:vs.length < 64)(ht:∀ x,Tg.«list.sort» ⟨[.ref x],[(Qn "key",f)]⟩=ksk_tree x f false)(I:∀ (h1:Heap) (Y:Nat),(∀ b o,s.heap.get? b=some o->h1.get? b=some o)->s.heap.objs.size<=h1.objs.size->ZbB prog w A.in1.in1 { s with heap:=h1,toks:=Y } (s.heap.objs.size+1) f vs ks)(h:∀ h' tk z c,(∀ b o,s.heap.get? b=some o->h'.get? b=some o)->h'.get? (s.heap.objs.size+1)=some (Gk "list" z c)->Zan ks vs z.toList->Q (.ref (s.heap.objs.size+1)) { s with heap:=h',toks:=tk }):
 Qq (Qw prog w) A (call (.builtin "sorted") [.ref l] [(Qn "key",f)]) Q E s:=by
 refine call_function_entry_kw kind_sorted plain_sorted entry_sorted (ksk_s1 _ _) ?_
 unfold Tg.«sorted»
 refine Qb (m:=checkCount "sorted" 1 1 _) (Qh ?_)
 refine Qb (collect_list hl ?_ (by rw [Gg];omega))
 refine Qb (wpAny_newList ?_ (by rw [Gg];omega))
 generalize hg:(s.heap.push (Gk "list" #[] 0)).update s.heap.objs.size (QT (·++vs.toArray))=g
 have hsz:g.objs.size=s.heap.objs.size+1:=by rw [<- hg,SH,OC]
 have kg:∀ b o,s.heap.get? b=some o->(g.push (Gk "list" vs.toArray 0)).get? b=some o:=fun b o q=>by
  have B:b < s.heap.objs.size:=Qi q
  rw [Nj _ _ _ (by rw [hsz];exact Qt (Jy B)),<- hg,Heap.get?_update_ne _ _ _ _ (Qt B),Nj _ _ _ (Qt B)]
  exact q
 have G:(g.push (Gk "list" vs.toArray 0)).get? (s.heap.objs.size+1)=some (Gk "list" vs.toArray 0):=by rw [<- hsz];exact Ql _ rfl
 show Qq _ _ _ _ _ { s with heap:=g.push (Gk "list" vs.toArray 0) }
 rw [hsz]
 refine Qb (QS (wpAny_call_entry_kw slot_list_sort ⟨_,G,rfl⟩ entry_list_sort ?body (ksk_l1 _ _)))
 show Qq (Qw prog w) A.in1.in1 (Tg.«list.sort» ⟨[.ref (s.heap.objs.size+1)],[(Qn "key",f)]⟩) _ _ _
 rw [ht]
 have Z:s.heap.objs.size<=(g.push (Gk "list" vs.toArray 0)).objs.size:=by rw [OC,hsz];omega
 refine Zgd (s:={ s with heap:=g.push (Gk "list" vs.toArray 0) }) G J W (I (g.push (Gk "list" vs.toArray 0)) s.toks kg Z) fun h' tk z c k3 a3 o3=>⟨_,rfl,?_⟩
 exact Qh ⟨_,rfl,h h' tk z c (fun b o y=>k3 b o (Qt (Jy (Qi y))) (kg b o y)) a3 o3⟩
end
def UP (base:Heap)(mg:Str->Option Qc):Prop:=∃ bm ob,mg "__builtins__"=some (.ref bm)/\bm≠SO/\base.get? bm=some ob/\ob.cls=.type "module"/\ob.dict=some SO/\ob.data=.plain
def Zfr (ts:List Addr)(H:Hp):Prop:=∀ b,H b=none\/(∃ o xs,H b=some (.frz o (.lst xs)))\/(H b=some (.tbl #[])/\b∈ts)
theorem Zha {P:Qk}{w:Qs}{K:Qa}{mg mb:Str->Option Qc}{CX:Uy}{k:Nat}{fa a:Addr}{fd:Qm}{x:Str}{sp:Sp}{B:Qe}{vs:List Qc}{ns:List Int}{ts:List Addr}
   (KX:K.In B.heap) (hns:B.heap.Ns Qr mg) (G:B.heap.Ns SO mb) (hbb:∀ x:Str,x≠"__name__"->mb x=JI x) (hlim:B.heap.NoLimit) (hg:B.gens=#[]) (hbm:UP B.heap mg)
   (ha:B.heap.get? a=some { cls:=.type "list",data:=.seq vs.toArray }) (hi:Ma vs ns) (hl:ns.length<=Qg) (hr:Room k RV)
   (W:∀ b∈ts,B.heap.get? b=some (tabObj #[])/\K.lookup b=none/\∃ c,CodeHd B.heap c b)
   (F:∀ base:Heap,K.In base->base.Ns Qr mg->UP base mg->FnOk P w K mg base CX k fa fd [x] sp) (hbind:∀ (s:Qe) (u:Qc),RU s fd ⟨[u],[]⟩ [(x,u)])
   (hsp:∀ H:Hp,Zfr ts H->SqL K H a (ns.map V.int)->(∀ b∈ts,H b=some (.tbl #[]))->sp [.ref a] H (fun v _=>v=.bl true) fun _ _ _=>False)
   (hCX:∀ H e s',CX [] H B (fun _ _ _=>False) e s'->False) :
   Tc (Qw P w) RV (.call (.ref fa) ⟨[.ref a],[]⟩) (fun r s'=>r=.ok (.ret (.bool true))/\OldK B.heap s'.heap/\s'.os=B.os/\TV s'.gens) B:=by
 have rv:=ZcH hi
 have lenV:=hi.length
 have nta:a ∉ ts:=fun z=>by
   have e:=(W a z).1
   rw [ha] at e;cases e
 have core : ∀ H:Hp,Zfr ts H->SqL K H a (ns.map V.int)->HOk P w H B.heap->(∀ b∈ts,H b=some (.tbl #[]))->(∀ b,H b≠none->b=a\/b∈ts)->(∀ b,H b≠none->K.lookup b=none) ->
     Tc (Qw P w) RV (.call (.ref fa) ⟨[.ref a],[]⟩) (fun r s'=>r=.ok (.ret (.bool true))/\OldK B.heap s'.heap/\s'.os=B.os/\TV s'.gens) B:=by
   intro H hO hS hok hT hA hK
   have J:∀ {b:Addr} {o:Obj},B.heap.get? b=some o->H b=none->(Uw B.heap H).get? b=some o:=fun y n=>Ziv y n
   have free:∀ {b:Addr} {o:Obj},B.heap.get? b=some o->(∀ its n,o.data≠.seq its n)->(∀ fs,o.data≠.fields fs)->H b=none:=fun {b o} y d1 d2=>by
     cases q:H b with
     | none=>rfl
     | some u =>
       rcases hA b (by rw [q];simp) with z | z
       · subst z
         rw [ha] at y;cases y
         exact absurd rfl (d1 _ _)
       · rw [(W b z).1] at y;cases y
         exact absurd rfl (d2 _)
   have Y:∀ {b:Addr} {m:Str->Option Qc},B.heap.Ns b m->(Uw B.heap H).Ns b m:=fun {b m} ⟨o,es,ep,y,d,r⟩=>⟨o,es,ep,J y (free y (fun its n z=>by rw [d] at z;cases z) fun fs z=>by rw [d] at z;cases z),d,r⟩
   have hKb:K.In (Uw B.heap H):=fun b o y=>J (KX b o y) (by
     cases q:H b with
     | none=>rfl
     | some u=>rw [hK b (by rw [q];simp)] at y;cases y)
   have hBm:UP (Uw B.heap H) mg:=by
     obtain ⟨bm,ob,h1,h2,h3,h4,h5,h6⟩:=hbm
     exact ⟨bm,ob,h1,h2,J h3 (free h3 (fun its n z=>by rw [h6] at z;cases z) fun fs z=>by rw [h6] at z;cases z),h4,h5,h6⟩
   have hM:Mod K mg (Uw B.heap H):=⟨hKb,Y hns,⟨mb,Y G,hbb⟩,let ⟨mc,h1,h2⟩:=hlim;⟨mc,Y h1,h2⟩⟩
   have e0:Env0 P w K mg (Uw B.heap H) RV [] B H:=⟨rfl,hM,fun b o e=>ZkN e,Td (ZgO _ _),trivial,fun b G=>absurd (show b∈([]:List Addr) from G) (by simp),hok,.of_eq hg⟩
   refine Pb ((F _ hKb (Y hns) hBm).run RV [] B H ⟨[.ref a],[]⟩ [.ref a] [.ref a] _ _ hr e0 (hbind B (.ref a)) (.cons rfl .nil) (hsp H hO hS hT)) fun r s' h=>?_
   cases r with
   | error e=>exact (hCX H e s' h).elim
   | ok fl =>
     cases fl with
     | next=>exact Gx h
     | brk=>exact Gx h
     | cont=>exact Gx h
     | ret u =>
       obtain ⟨v,H',os,bare,un,hok',r',q⟩:=h
       have q':v=.bl true:=q
       subst q'
       obtain rfl:u=Jz true:=r'
       have key:∀ b o,B.heap.get? b=some o->s'.heap.get? b=some o\/(b∈ts/\∃ I:Array Qc,s'.heap.get? b=some (tabObj (#[]++I))):=fun b o y=>by
         cases q:H b with
         | none=>exact .inl (un.keep b o y q (by intro z;exact absurd (show b∈([]:List Addr) from z) (by simp)) (by simp))
         | some u =>
           rcases hO b with z | ⟨ob,xs,z⟩ | ⟨z,zt⟩
           · rw [q] at z;cases z
           · have z2:=un.frzs b ob _ z
             obtain ⟨e1,_⟩:=hok b _ z
             obtain ⟨e2,_⟩:=hok' b _ z2
             rw [y] at e1;cases e1
             exact .inl e2
           · obtain ⟨I,z2⟩:=un.tbls b #[] z
             exact .inr ⟨zt,I,show s'.heap.get? b=some { cls:=.none,data:=.fields (#[]++I) } from hok' b _ z2⟩
       refine ⟨rfl,⟨fun b o y=>?_,fun b o y=>?_⟩,os,bare⟩
       · rcases key b o y with z | ⟨zt,I,z⟩
         · exact .inl z
         · obtain ⟨t1,_,c,t3⟩:=W b zt
           rw [t1] at y;cases y
           exact .inr (.inl ⟨(t3.tab t1).isCodeTable,rfl,#[],I,rfl,z⟩)
       · rcases key b o y with z | ⟨zt,I,z⟩
         · exact ⟨_,z⟩
         · exact ⟨_,z⟩
 have okT:∀ (H:Hp) (b:Addr),b∈ts->ObjOk P w H B.heap b (.tbl #[]):=fun H b G=>(W b G).1
 cases hk:K.lookup a with
 | some o =>
   have e:=KX a o hk
   rw [ha] at e
   cases e
   refine core (fun b=>if b∈ts then some (.tbl #[]) else none) (fun b=>?_) (.inr ⟨_,vs.toArray,_,hk,rfl,rfl,rfl,by rw [size_toArray,lenV];exact hl,by simpa using rv⟩) (fun b u z=>?_) (fun b G=>if_pos G) (fun b z=>?_) (fun b z=>?_)
   · by_cases G:b∈ts
     · exact .inr (.inr ⟨if_pos G,G⟩)
     · exact .inl (if_neg G)
   · by_cases G:b∈ts
     · have Z:=(if_pos G).symm.trans z
       cases Z
       exact okT _ b G
     · have Z:=(if_neg G).symm.trans z
       cases Z
   · by_cases G:b∈ts
     · exact .inr G
     · exact absurd (if_neg G) z
   · by_cases G:b∈ts
     · exact (W b G).2.1
     · exact absurd (if_neg G) z
 | none =>
   refine core (fun b=>if b=a then some (.frz { cls:=.type "list",data:=.seq vs.toArray } (.lst (ns.map V.int))) else if b∈ts then some (.tbl #[]) else none) (fun b=>?_) (.inl (.inr ⟨{ cls:=.type "list",data:=.seq vs.toArray },if_pos rfl⟩)) (fun b u z=>?_)
     (fun b G=>(if_neg (fun z:b=a=>nta (by rw [<- z];exact G))).trans (if_pos G)) (fun b z=>?_) (fun b z=>?_)
   · by_cases h1:b=a
     · exact .inr (.inl ⟨_,_,if_pos h1⟩)
     · by_cases G:b∈ts
       · exact .inr (.inr ⟨(if_neg h1).trans (if_pos G),G⟩)
       · exact .inl ((if_neg h1).trans (if_neg G))
   · by_cases h1:b=a
     · have Z:=(if_pos h1).symm.trans z
       cases Z
       subst h1
       exact ⟨ha,by rw [length_map];exact hl,vs,_,rv,ha⟩
     · have z1:=(if_neg h1).symm.trans z
       by_cases G:b∈ts
       · have Z:=(if_pos G).symm.trans z1
         cases Z
         exact okT _ b G
       · have Z:=(if_neg G).symm.trans z1
         cases Z
   · by_cases h1:b=a
     · exact .inl h1
     · by_cases G:b∈ts
       · exact .inr G
       · exact absurd ((if_neg h1).trans (if_neg G)) z
   · by_cases h1:b=a
     · rw [h1];exact hk
     · by_cases G:b∈ts
       · exact (W b G).2.1
       · exact absurd ((if_neg h1).trans (if_neg G)) z
theorem walk_ofT {l:Ru}{n k:Nat}{q:Qk}{J:List Str}{XP:(Str->Option Qc)->Heap->Prop}{YP:Qs->Heap->Prop}{d:DefRec}{K:Params->Qa}{CX:Qs->Uy}{sp:Qs->Sp}{x:Str}{ts:List Addr}
 (hn:l.most=some n) (hn2:n<=Qg) (hdf:d.params.defaults=[]) (hr:Room k RV)
 (hY:∀ (w:Qs) (h:Heap),YP w h->(K w.params).In h/\∀ b∈ts,h.get? b=some (tabObj #[]))
 (hK:∀ (w:Qs) (b:Addr),b∈ts->(K w.params).lookup b=none/\∃ c,codeHdIn (K w.params) c b=true)
 (F:∀ (w:Qs) (mg:Str->Option Qc) (fa:Addr) (h:Heap),(K w.params).In h->h.Ns Qr mg->mg d.name=some (.ref fa) ->
  ∃ fd:Qm,(∀ (s:Qe) (u:Qc),RU s fd ⟨[u],[]⟩ [(x,u)]) /\
   ∀ base:Heap,(K w.params).In base->base.Ns Qr mg->UP base mg->FnOk l.prog w (K w.params) mg base (CX w) k fa fd [x] (sp w))
 (hsp:∀ (w:Qs) (H:Hp) (a:Addr) (ns:List Int),ns.length<=n->Zfr ts H->SqL (K w.params) H a (ns.map V.int)->(∀ b∈ts,H b=some (.tbl #[]))->sp w [.ref a] H (fun v _=>v=.bl true) fun _ _ _=>False)
 (hCX:∀ (w:Qs) (H:Hp) (s:Qe) (e:Qc) (s':Qe),CX w [] H s (fun _ _ _=>False) e s'->False) :
 PySem.W.WalkO q J XP YP l.row.toRowW d [] (fun f vs=>PySem.call f vs):=by
 refine Att.attach_call hn hdf fun w s₀ s₁ mg mb fa o pm cd doc a vs ns G Y ho hd hcd hmg Z I z hg=>?_
 obtain ⟨KX,hT⟩:=hY w _ Y
 obtain ⟨fd,hb,hF⟩:=F w mg fa _ KX G.T.g hmg
 exact Zha (ts:=ts) KX G.T.g G.T.b G.T.builtins G.T.nolimit hg G.T.bmain Z I (Qo z hn2) hr (fun b B=>⟨hT b B,(hK w b B).1,let ⟨c,hc⟩:=(hK w b B).2;⟨c,codeHd_of_K KX hc⟩⟩) hF hb (fun H hO hS hTb=>hsp w H a ns z hO hS hTb) fun H e s'=>hCX w H s₁ e s'
abbrev VR (apos:Pos):Arguments:={ posonlyargs:=[],args:=[{ arg:="pair",annotation:=none,pos:=apos }],vararg:=none,kwonlyargs:=[],kw_defaults:=[],kwarg:=none,defaults:=[] }
abbrev UG (p1 p2 p3:Pos):Expr:=.Subscript (.Name "pair" p1) (.Constant (.int 0) 0 p2) p3
abbrev Ue:Scope:={ kind:=.function,names:=[("pair",.local)],isGenerator:=false,isCoroutine:=false,more:=[] }
section
variable {prog:Qk}{w:Qs}{A:QD}{E:Qc->Qe->Prop}{s:Qe}
theorem Ziw (ho:s.heap.get? q=some { cls:=.type "function",data:=.func (kla_fn "<lambda>" qual (VR apos) (UG p1 p2 p3) Ue [] pm Z ct) })(hcd:s.heap.CodeRec Z qual)(hlim:s.heap.NoLimit)(J:A.depth < RI)(ht:OJ s.heap t B)(h0:B[0]?=some k)(hQ:∀ h' tk,(∀ b o,s.heap.get? b=some o->h'.get? b=some o)->s.heap.objs.size<=h'.objs.size->Q k { s with heap:=h',toks:=tk }):
 Qq (Qw prog w) A (call (.ref q) [.ref t]) Q E s:=by
 refine Ot (kla_callFunE (body:=UG p1 p2 p3) J ho rfl rfl rfl rfl hcd ?_)
 refine Se (a:=[(Qn "pair",Qv t)]) rfl ?_
 refine Tp rfl (fun y hy=>?_) fun env he z x=>⟨hlim.keeps x.toInCall.keep,kla_codeExpr ?_⟩
 ·rw [mem_singleton.mp hy];exact .inl rfl
 have Y:=x.toInCall.ns
 obtain ⟨h1,tk1,e1⟩:=x.toInCall.same
 have G:=x.toInCall.keep
 have hfr:=x.toInCall.fresh
 have hL:=Y.lt
 have I:env.kindOf "pair"=some .local:=by rw [he];rfl
 have hm:(NK env.kindOf [(Qn "pair",Qv t)] fun _=>none) "pair"=some (.ref t):=by
  rw [he];rfl
 have hsc:env.scope.kind=.function:=by rw [he];rfl
 clear x
 refine Ow (Op (PH hsc I Y hm (Oq ?_)) (by decide))
 have ht1:OJ z.heap t B:=by
  obtain ⟨o,e,r⟩:=ht
  exact ⟨o,G _ _ e,r⟩
 have fin:Q k { z with toks:=z.toks+1 }:=by
  subst e1
  exact hQ h1 (tk1+1) G (JJ (QW hfr hL))
 have hsz:0 < B.size:=(Tx.mp h0).1
 have W:OJ (NN { z with toks:=z.toks+1 }) t B:=ht1
 exact Pd (x:=k) W.typeIs QK.lookup
  (getItem_tuple (j:=0) (Q:=fun r s'=>r=k/\(fun v s'=>(match (Except.ok (Flow.ret v):Nv) with | .ok (.ret v)=>Q v s' | .ok _=>False | .error e=>E e s')) r s') W (by decide) (by decide) (ZbJ (n:=B.size) (i:=0) (j:=0) (by unfold Wo;rw [if_pos (by decide),if_pos (by omega)];rfl)).1 h0 ⟨rfl,fin⟩) rfl
theorem Zen:∀{ts:List Addr}{us:List Qc},Vals (ts.map V.ref) us->us=ts.map Qv
 | [],_,.nil=>rfl
 | t::ts,_,.cons r h=>by
  have e:=Zen h
  cases (show _=Qv t from r)
  rw [e];rfl
end
def Zfs (ks:List Str)(ts ts':List Addr):Prop:=∃ ps:List (Str×Addr),ps.Perm (ks.zip ts)/\ts'=ps.map (·.2)/\ps.Pairwise fun p q=>¬ (q.1.cps.toList < p.1.cps.toList)
def unR:Qc->Addr
 | .ref a=>a
 | _=>0
theorem Zlg (h:Zan ks (ts.map Qv) G):∃ B,G=B.map Qv/\Zfs ks ts B:=by
 obtain ⟨ps,hp,J,W⟩:=h
 have z:∀ p∈ps,p.2=Qv (unR p.2):=fun p I=>by
  have h1:=(of_mem_zip (show (p.1,p.2)∈_ from hp.mem_iff.mp I)).2
  obtain ⟨t,_,e⟩:=mem_map.mp h1
  rw [<- e];rfl
 refine ⟨ps.map fun p=>unR p.2,?_,ps.map (fun p=>(p.1,unR p.2)),?_,?_,?_⟩
 ·rw [J,map_map]
  exact JO z
 ·have h1:=hp.map fun p:Str×Qc=>(p.1,unR p.2)
  have h2:(ks.zip (ts.map Qv)).map (fun p:Str×Qc=>(p.1,unR p.2))=ks.zip ts:=by
   rw [List.zip_map_right,map_map]
   have:((fun p:Str×Qc=>(p.1,unR p.2)) ∘ Prod.map id Qv)=(id:Str×Addr->Str×Addr):=by funext p;rfl
   rw [this,List.map_id]
  rwa [h2] at h1
 ·rw [map_map];rfl
 ·rw [Ph];exact W
def Zfo (c:Addr)(qual:Str):Heap->Prop:=fun h=>h.CodeRec (.ref c) qual
def LamAt (H:Hp)(Pl:Addr)(lpos:Pos)(qual:Str):Prop :=
 H Pl=some (.tbl #[])\/∃ c,H Pl=some (.tbl #[Jv lpos.line,Jv lpos.col,.ref c])/\H c=some (.ext (Zfo c qual))
theorem ZkE (e:h.CodeRec (.ref c) qual):ObjOk P w H h c (.ext (Zfo c qual)):=by
 obtain ⟨B,o,vs,t,z,g,r⟩:=id e
 cases z
 refine ⟨e,⟨o,g⟩,fun h1 h2 p k=>?_⟩
 obtain ⟨B,o,vs,t,z,g,r⟩:=p
 cases z
 exact ⟨_,o,vs,t,rfl,k _ g,r⟩
def Grown (Pl:Addr)(H H':Hp):Prop:=∀ b o,b≠Pl->H b=some o->H' b=some o
section
variable {X:Cx}{pins:List (Addr×Obj)}{σ:List (Option V)}{H:Hp}{s:Qe}{h':Heap}
theorem Inv.table {t':Nat}{Pl c:Addr}{ps:Array Qc}{qual:Str}{lpos:Pos}(I:Inv X pins σ H s)(G:H Pl=some (.tbl ps))(k:∀ b o,b≠Pl->s.heap.get? b=some o->h'.get? b=some o)
 (hT:h'.get? Pl=some (tabObj (ps++#[Jv lpos.line,Jv lpos.col,.ref c]))) (hc:s.heap.objs.size<=c) (hr:h'.CodeRec (.ref c) qual) :
 Inv X pins σ (upd (upd H Pl (.tbl (ps++#[Jv lpos.line,Jv lpos.col,.ref c]))) c (.ext (Zfo c qual))) { s with heap:=h',toks:=t' }:=by
 have J:H c=none:=I.hok.fresh hc
 have Z:c≠Pl:=fun z=>by rw [z,G] at J;cases J
 have Y:∀ b,H b=none->b≠Pl:=fun b z e=>by rw [e,G] at z;cases z
 have B:∀ b o,b≠Pl->H b=some o->upd (upd H Pl (.tbl (ps++#[Jv lpos.line,Jv lpos.col,.ref c]))) c (.ext (Zfo c qual)) b=some o:=fun b o h1 e=>by rw [Zj (Zx e J),Zj h1];exact e
 have nL:X.env.locals≠Pl:=Y _ I.free
 refine I.step (g':=s.gens) (d':=s.drawn) (ch:=[]) (fun _ z=>nomatch z) (fun b o _ _ _ e n=>k b o (Y b n) e) (fun b o _ _ _ e n=>⟨o.slots,k b o (Y b n) e⟩) (fun b o _ e n=>?_) (fun b o _ e=>?_)
  (fun b xs e=>B b _ (fun z=>by rw [z,G] at e;cases e) e) (fun b o u e=>B b _ (fun z=>by rw [z,G] at e;cases e) e) (fun b qs e=>?_) (fun m hm=>?_) (fun b u e=>?_) I.bare
 ·rw [Zj (fun z=>by rw [z] at e;exact absurd (Qi e) (Oz.mpr hc)),Zj (Y b n)];exact n
 ·by_cases W:b=Pl
  ·exact ⟨_,by rw [W];exact hT⟩
  ·exact ⟨o,k b o W e⟩
 ·by_cases W:b=Pl
  ·rw [W,G] at e
   cases e
   exact ⟨#[Jv lpos.line,Jv lpos.col,.ref c],by rw [W,Zj Z.symm,Zh]⟩
  ·exact ⟨#[],by rw [B b _ W e];simp⟩
 ·obtain ⟨o,es,ep,ho,r⟩:=hm
  exact ⟨o,es,ep,k _ o nL ho,r⟩
 ·by_cases h1:b=c
  ·subst h1
   rw [Zh] at e
   cases e
   exact ZkE hr
  ·rw [Zj h1] at e
   by_cases h2:b=Pl
   ·subst h2
    rw [Zh] at e
    cases e
    exact hT
   ·rw [Zj h2] at e
    refine (I.hok b u e).stay (fun d v hd y=>k d v ?_ y) (fun d y=>B d _ (fun z=>by rw [z,G] at y;cases y) y) fun d xs y=>B d _ (fun z=>by rw [z,G] at y;cases y) y
    rcases hd with z | z
    ·rw [z];exact h2
    ·exact fun z2=>by rw [z2,G] at z;cases z
theorem Zix (I:Inv X pins σ H s)(G:X.env.code=.ref c)(C:codeHdIn X.K c Pl=true)(hBm:UP X.base X.mg)(hL:LamAt H Pl lpos (X.env.qual++"<lambda>"))(h:∀ (q:Addr) (H':Hp) (s':Qe) (pm cdv ct:Qc),Inv X pins σ H' s'->Grown Pl H H'->LamAt H' Pl lpos (X.env.qual++"<lambda>")->s'.heap.get? q=some { cls:=.type "function",data:=.func (kla_fn "<lambda>" (X.env.qual++"<lambda>") (VR apos) (UG p1 p2 p3) Ue [] pm cdv ct) } ->
  s'.heap.CodeRec cdv (X.env.qual++"<lambda>")->Q (.ref q) s'):
 Qq (Qw X.prog X.w) A (eval (.Lambda (VR apos) (UG p1 p2 p3) Ue lpos) X.env) Q E s:=by
 rw [arm_eval_Lambda]
 refine Qb (m:=evalAll []) (OX (Qb (QS (m:=evalAllOpt []) (Se (a:=[]) rfl ?_))))
 have hcl:closureFor Ue X.env=pure []:=rfl
 have hg:=I.mod.glob.keeps I.bk
 have CH:=codeHd_of_K I.kIn C
 have tab:∀ ps,H Pl=some (.tbl ps)->s.heap.get? Pl=some (tabObj ps):=fun ps e=>I.hok Pl _ e
 have Y:∀ ps,s.heap.get? Pl=some (tabObj ps)->s.heap.BuiltinsAt X.mg Pl/\Qr≠Pl:=fun ps e=>by
  obtain ⟨bm,ob,b1,b2,b3,b4,b5,b6⟩:=hBm
  have W:=I.bk _ _ b3
  have hmg:Qr≠Pl:=fun z=>by
   obtain ⟨o,es,ep,y,hd,_⟩:=hg
   rw [z,e] at y;cases y;cases hd
  refine ⟨⟨bm,ob,b1,b2,fun z=>?_,(fun z=>by rw [z,e] at W;cases W;cases b4),W,b4,b5,b6⟩,hmg⟩
  obtain ⟨o,es,ep,y,hd,_⟩:=hg
  rw [<- z,W] at y;cases y
  rw [b6] at hd;cases hd
 rcases hL with e | ⟨J,e,ec⟩
 ·have hP:=tab _ e
  obtain ⟨hb,hgP⟩:=Y _ hP
  refine kla_makeFunction (clos:=[]) hcl I.ok.glob hg G CH hP trivial rfl hgP hb fun J Z h' tk hx hge hlt B hT=>?_
  have I1:=I.table (t':=tk) (h':=h') (qual:=X.env.qual++"<lambda>") (lpos:=lpos) e (fun b o hb' y=>hx b o hb' y) hT hge B
  have hcn:H J=none:=I.hok.fresh hge
  have hcP:J≠Pl:=fun z=>by rw [z,e] at hcn;cases hcn
  refine h _ _ _ ((X.mg "__name__").getD .none) (.ref J) Z (I1.kept (t':=tk) fun b o y=>Qd _ y) (fun b o h1 y=>by rw [Zj (Zx y hcn),Zj h1];exact y) (.inr ⟨J,by rw [Zj hcP.symm,Zh];rfl,Zh⟩) (Ql _ rfl) (B.push _)
 ·have hP:=tab _ e
  obtain ⟨hb,hgP⟩:=Y _ hP
  have B:s.heap.CodeRec (.ref J) (X.env.qual++"<lambda>"):=(I.hok J _ ec).1
  refine kla_makeFunctionHit (clos:=[]) (cv:=.ref J) hcl I.ok.glob hg G CH hP trivial (by simp [codeAmong,Jv]) hb fun Z h' tk hk hz=>?_
  exact h _ _ _ ((X.mg "__name__").getD .none) (.ref J) Z ((I.kept (h':=h') (t':=tk) hk).kept (t':=tk) fun b o y=>Qd _ y) (fun b o _ y=>y) (.inr ⟨J,e,ec⟩) (Ql _ rfl) ((B.keeps hk).push _)
end
def Zoe (Pl:Addr)(lpos:Pos)(qual:Str)(te:TE):TE:=fun σ H Q=>te σ H fun x H1=>∃(l:Addr)(ts:List Addr)(ks:List Str),[x]=[.ref l]/\H1 l=some (.lst (ts.map V.ref))/\ts.length < 64/\ks.length=ts.length /\
 (∀ (i:Nat) (t:Addr) (k:Str),ts[i]?=some t->ks[i]?=some k->∃ vs,H1 t=some (.tup (.str k::vs)))/\LamAt H1 Pl lpos qual /\
 ∀ (H2:Hp) (r:Addr) (ts':List Addr),Grown Pl H1 H2->LamAt H2 Pl lpos qual->H2 r=none->Zfs ks ts ts'->Q (.ref r) (upd H2 r (.lst (ts'.map V.ref)))
section
variable {X:Cx}
theorem Zjb {k:Nat}{c Pl:Addr}(hg:Gl X "sorted")(hm:X.mg "sorted"=none)(he:PE X e te)(hr:Room k X.A)(J:X.env.code=.ref c)(C:codeHdIn X.K c Pl=true)(hBm:UP X.base X.mg)(hs:QA [e] X.env=[(false,eval e X.env)]:=by rfl):PE X (.Call (.Name "sorted" p) [e] [⟨some "key",.Lambda (VR apos) (UG p1 p2 p3) Ue lpos,kpos⟩] pos) (Zoe Pl lpos (X.env.qual++"<lambda>") te):=by
 intro pins s σ H Q I h
 have ha:PA X [e] (Xh te Wa):=Yq he Za hs
 refine Gb (Wp I hg hm boot_sorted (callWith_kw ?_ (by rw [hs];rfl) (by rw [hs];rfl) rfl rfl))
 refine Zw (ha pos pins s σ H (fun xs H1=>∃ (l:Addr) (ts:List Addr) (ks:List Str),xs=[V.ref l]/\H1 l=some (.lst (ts.map V.ref))/\ts.length < 64/\ks.length=ts.length /\
  (∀ (i:Nat) (t:Addr) (k:Str),ts[i]?=some t->ks[i]?=some k->∃ vs,H1 t=some (.tup (.str k::vs)))/\LamAt H1 Pl lpos (X.env.qual++"<lambda>") /\
  ∀ (H2:Hp) (r:Addr) (B:List Addr),Grown Pl H1 H2->LamAt H2 Pl lpos (X.env.qual++"<lambda>")->H2 r=none->Zfs ks ts B->Q (.ref r) (upd H2 r (.lst (B.map V.ref)))) I h) fun us s1 ⟨vs,H1,I1,r1,q1⟩=>?_
 obtain ⟨l,ts,ks,rfl,el,h64,hlen,htup,hL,q⟩:=q1
 obtain ⟨u,rfl,ru⟩:=YQ r1
 cases ru
 refine kws_cons (Zix I1 J C hBm hL fun fq H2 s2 pm cdv ct Z gr hL2 hfo Y=>kws_nil ?_)
 have nl:l≠Pl:=fun z=>by
  rw [z] at el
  rcases hL with y | ⟨_,y,_⟩<;>(rw [el] at y;cases y)
 have el2:=gr l _ nl el
 obtain ⟨its,rv,pl,hz⟩:=Z.list (SqL.of el2)
 have hits:=Zen rv
 subst hits
 have W:∀ (i:Nat) (t:Addr) (k:Str),ts[i]?=some t->ks[i]?=some k->∃ its':Array Qc,OJ s2.heap t its'/\∃ tk,its'[0]?=some (.str k tk):=fun i t k h1 h2=>by
  obtain ⟨vs,ev⟩:=htup i t k h1 h2
  have nt:t≠Pl:=fun z=>by
   rw [z] at ev
   rcases hL with y | ⟨_,y,_⟩<;>(rw [ev] at y;cases y)
  obtain ⟨_,itv,rv',pt⟩:=(show ObjOk X.prog X.w H2 s2.heap t (.tup (.str k::vs)) from Z.hok t _ (gr t _ nt ev))
  cases rv' with
  | cons r rr =>
   obtain ⟨tk,e⟩:=r
   exact ⟨_,pt,tk,by rw [e];rfl⟩
 refine Zlx (vs:=ts.map Qv) (ks:=ks) pl.isList (by rw [length_map];exact hlen) (by rw [length_map];exact h64) (fun x=>ksk_t1 fq x) (fun h1 tk1 k1 z1=>?_) fun h' tk out cc k3 a3 o3=>?_
 ·intro i v k hv hk h2 tk2 k2 z2 Q' hQ'
  rw [getElem?_map] at hv
  cases ht:ts[i]? with
  | none=>rw [ht] at hv;cases hv
  | some t =>
   rw [ht] at hv
   cases (show some (Qv t)=some v from hv)
   obtain ⟨its',pt,tk',e0⟩:=W i t k ht hk
   have kp:∀ b o,s2.heap.get? b=some o->h2.get? b=some o:=fun b o y=>k2 b o (Qt (Jy (Qi y))) (k1 b o y)
   have pt2:OJ h2 t its':=by
    obtain ⟨o,eo,r⟩:=pt
    exact ⟨o,kp _ _ eo,r⟩
   exact Ziw (s:={ s2 with heap:=h2,toks:=tk2 }) (kp _ _ hfo) (Y.keeps kp) (Z.nolimit.keeps kp) (show X.A.depth < RI by have:=hr.dp;omega) pt2 e0 fun h3 tk3 k3 z3=>hQ' h3 tk3 tk' k3 z3
 ·obtain ⟨B,G,hT⟩:=Zlg o3
  have rv2:Vals (B.map V.ref) out.toList:=by
   rw [G]
   clear G hT o3
   induction B with
   | nil=>exact .nil
   | cons t r ih=>exact .cons rfl ih
  have hl2:(B.map V.ref).length<=sizeLine:=by
   obtain ⟨ps,hp,e,_⟩:=hT
   have:=hp.length_eq
   rw [Rv] at this
   rw [length_map,e,length_map,this]
   exact ZfF (by omega)
  exact ⟨.ref _,_,Z.laid (t':=tk) k3 (JD _) (show ObjOk X.prog X.w _ h' _ (.lst (B.map V.ref)) from ⟨hl2,out.toList,cc,rv2,by rw [RO];exact a3⟩),rfl,q H2 _ B gr hL2 (Z.hok.fresh (JD _)) hT⟩
end
theorem Zbi:typeLookup (.type "tuple") "keys"=pure none:=am_miss_of_fast (by decide +kernel)
section
variable {prog:Qk}{w:Qs}{A:QD}{E:Qc->Qe->Prop}{s:Qe}
theorem ZgW {k:Nat}(G:s.heap.get? a=some { cls:=.type "tuple",dict:=none,data:=.seq xs k,slots:=I })(W:A.handled=none)(h:∀ h' tk,(∀ b o,s.heap.get? b=some o->h'.get? b=some o)->Q none { s with heap:=h',toks:=tk }):Qq (Qw prog w) A (getAttr? (.ref a) "keys") Q E s:=by
 obtain ⟨hp,g,d,tk,os⟩:=s
 have J:∀ z,(⟨hp,g,d,z,os⟩:Qe).TypeIs (.ref a) "tuple":=fun _=>⟨_,G,rfl⟩
 have f1:=sub_AttributeError
 have Z:=TK.lookup
 have f4:=TK.bind (.ref a)
 have Y:=am_tuple_getattr_none
 unfold getAttr? getAttrBy? getAttrBy
 repeat (any_goals first | assumption | exact J _ | ((with_reducible show Qq _ _ (call (Value.builtin "tuple.__getattribute__") _ _) _ _ _);refine Tu F.slot_tuple_getattribute (J _) am_entry_tuple_getattribute (F.args_tuple_getattribute_2 _ _) (meets_getattribute_miss_tuple a xs k I "keys" _ Zbi (by decide) (by decide)) ⟨G,W,fun h' z e B=>?_⟩) | wp_step)
 obtain ⟨t',u',he⟩:=B.there
 show Qq _ _ (OD _ _ _ _ _ _ _) _ _ _
 unfold OD
 repeat (any_goals first | assumption | wp_step)
 all_goals exact h _ _ B.keeps
theorem UB:entryFor table "dict.update.loop"=some Tg.«dict.update.loop»:=entryFor_of_tree (by kernel_rfl)
theorem XJ:plainId "dict.update.loop"=true:=by decide +kernel
end
section
variable {prog:Qk}{w:Qs}{A:QD}{R:Nv->Qe->Prop}
def PairAt (prog:Qk)(w:Qs)(h:Heap)(v:Qc)(p:Zn×Qc):Prop:=∃ tt key,v=.ref tt/\OJ h tt #[key,p.2]/\(ZL prog w).is p.1 key=true
theorem PairAt.keep (x:PairAt prog w h v p)(k:∀ b o,h.get? b=some o->h'.get? b=some o):PairAt prog w h' v p:=by
 obtain ⟨B,key,e,⟨o,G,r⟩,z⟩:=x
 exact ⟨B,key,e,⟨o,k _ _ G,r⟩,z⟩
theorem PairAt.but (x:PairAt prog w h v p)(W:h.get? d=some o)(I:o.cls≠.type "tuple")(k:∀ b o,b≠d->h.get? b=some o->h'.get? b=some o):PairAt prog w h' v p:=by
 obtain ⟨G,key,e,⟨J,B,c,r⟩,z⟩:=x
 refine ⟨G,key,e,⟨J,k _ _ (fun y=>?_) B,c,r⟩,z⟩
 rw [y,W] at B
 cases B
 exact I c
theorem ZjT (ps:List (Zn×Qc))(hlen:ps.length=B.size)(hnd:(ps.map (·.1)).Nodup)(hsz:ps.length<=Qg)(hh:A.handled=none)(hIt:I≠t)(hId:I≠d):
 ∀ (k i:Nat) (s:Qe) (n:Int) (tk:Tok),ps.length - i=k->i<=ps.length->s.heap.IsTupleIter I t i->s.heap.IsTuple t B->(∀ (j:Nat) (v:Qc) (p:Zn×Qc),B[j]?=some v->ps[j]?=some p->PairAt prog w s.heap v p)->s.heap.DictOf (ZL prog w) d (ps.take i) ->
 (∀ h' tk',(∀ b o,b≠I->b≠d->s.heap.get? b=some o->h'.get? b=some o)->h'.DictOf (ZL prog w) d ps->R (.ok (.ret .none)) { s with heap:=h',toks:=tk' }) ->
 Tc (Qw prog w) A (.builtin "dict.update.loop" ⟨[.ref d,.ref I,.int n tk,.none],[]⟩) R s:=by
 have W:=Walks.tuple (prog:=prog) (w:=w) (A:=A.in1) hh I t hIt.symm B
 intro k
 induction k with
 | zero =>
  intro i s n tk hk hi Y htp hpr hd hR
  have hin:i=B.size:=by omega
  refine Rq UB ?_
  rw [RP XJ _]
  show Qq _ A.in1 (Sm (.ref I) >>= _) _ _ s
  refine Qb (W.done s _ _ ⟨by rw [<- hin];exact Y,htp⟩ fun h' tk' kk=>?_)
  show Qq _ _ (Builtin.Dict.addKeywords d [] >>= _) _ _ _
  refine Qb (Qh (Qh (hR h' tk' (fun b o h1 _ y=>kk b o (by simpa using h1) y) ?_)))
  rw [take_of_length_le (by omega)] at hd
  obtain ⟨o,es,ep,J,r⟩:=hd
  exact ⟨o,es,ep,kk d o (by simpa using hId.symm) J,r⟩
 | succ k ih =>
  intro i s n tk hk hi Y htp hpr hd hR
  have hlt:i < B.size:=by omega
  refine Rq UB ?_
  rw [RP XJ _]
  show Qq _ A.in1 (Sm (.ref I) >>= _) _ _ s
  refine Qb (W.item i s _ _ hlt ⟨Y,htp⟩ fun v h1 tk1 hv st1 kk=>?_)
  obtain ⟨hit1,htp1⟩:=st1
  have hI0:∃ o,s.heap.get? I=some o/\o.cls≠.type "tuple":=by
   obtain ⟨o,J,c,_⟩:=Y
   exact ⟨o,J,by rw [c];decide⟩
  have hpr1:∀ (j:Nat) (v:Qc) (p:Zn×Qc),B[j]?=some v->ps[j]?=some p->PairAt prog w h1 v p:=fun j v p a b=>by
   obtain ⟨o,J,c⟩:=hI0
   exact (hpr j v p a b).but J c fun b o hb y=>kk b o (by simpa using hb) y
  obtain ⟨p,hp⟩:∃ p,ps[i]?=some p:=⟨_,getElem?_eq_getElem (by omega)⟩
  have hv':B[i]?=some v:=hv
  obtain ⟨tt,key,rfl,⟨ot,J,oc,on,od⟩,hkey⟩:=hpr1 i v p hv' hp
  have hd1:h1.DictOf (ZL prog w) d (ps.take i):=by
   obtain ⟨o,es,ep,J,r⟩:=hd
   exact ⟨o,es,ep,kk d o (by simpa using hId.symm) J,r⟩
  have hT:Oi { s with heap:=h1,toks:=tk1 } (.ref tt) "tuple":=⟨ot,J,oc⟩
  have hnew:stored (ps.take i) p.1 p.2=ps.take (i+1):=by
   have hni:p.1 ∉ (ps.take i).map (·.1):=fun z=>by
    have e1:(ps.map (·.1))=(ps.take i).map (·.1)++(ps.drop i).map (·.1):=by rw [<- map_append,List.take_append_drop]
    rw [e1,Sg] at hnd
    refine hnd.2.2 _ z _ (mem_map.mpr ⟨p,?_,rfl⟩) rfl
    exact mem_of_getElem? (i:=0) (by rw [OB];simpa using hp)
   unfold stored
   rw [if_neg,take_add_one,hp]
   ·rfl
   ·intro z
    obtain ⟨q,hq,e⟩:=List.any_eq_true.mp z
    exact hni (mem_map.mpr ⟨q,hq,by simpa using e⟩)
  show Qq _ A.in1 (JL [.ref tt] _ >>= _) _ _ _
  refine Qb (QS ?_)
  refine Qb (wpAny_tryCatch ?_)
  unfold Builtin.Dict.pairItems
  refine Qb (JM hT ?_)
  rw [if_pos (by decide)]
  refine Qb (Gf J od (Qh ?_))
  show Qq _ _ (JL [key,p.2] (dictSet d key p.2)) _ _ _
  refine QS (wpAny_dictSet_pairs hkey hd1 (fun h2 hd2 Z=>?_) (Qo (by rw [length_take];omega) hsz))
  rw [hnew] at hd2
  refine Qh ⟨plainId_quiet XJ _,ih (i+1) _ (n+1) _ (by omega) (by omega) ?_ ?_ ?_ hd2 ?_⟩
  ·obtain ⟨o,G,r⟩:=hit1
   exact ⟨o,(Z.2 I hId).trans G,r⟩
  ·obtain ⟨o,G,r⟩:=htp1
   refine ⟨o,(Z.2 t (fun z=>?_)).trans G,r⟩
   obtain ⟨o',es,ep,eo2,c2,_⟩:=hd1
   rw [z,eo2] at G
   cases G
   rw [c2.1] at r
   exact absurd r.1 (by decide)
  ·intro j v p a b
   obtain ⟨o',es,ep,eo2,c2,_⟩:=hd1
   exact (hpr1 j v p a b).but eo2 (by rw [c2.1];decide) fun b o hb y=>(Z.2 b hb).trans y
  ·intro h3 tk3 k3 hd3
   exact hR h3 tk3 (fun b o h4 h5 y=>k3 b o h4 h5 ((Z.2 b h5).trans (kk b o (by simpa using h4) y))) hd3
end
section
variable {prog:Qk}{w:Qs}{A:QD}{E:Qc->Qe->Prop}{s:Qe}
theorem ZcK (ps:List (Zn×Qc))(ht:OJ s.heap t z)(hnd0:∃ o,s.heap.get? t=some o/\o.dict=none)(hlen:ps.length=z.size)(hnd:(ps.map (·.1)).Nodup)(hsz:ps.length<=Qg)(hh:A.handled=none)(hpr:∀ (j:Nat) (v:Qc) (p:Zn×Qc),z[j]?=some v->ps[j]?=some p->PairAt prog w s.heap v p)(h:∀ h' Y,(∀ b o,s.heap.get? b=some o->h'.get? b=some o)->h'.DictOf (ZL prog w) s.heap.objs.size ps->Q (.ref s.heap.objs.size) { s with heap:=h',toks:=Y }):
 Qq (Qw prog w) A (call (.type "dict") [.ref t]) Q E s:=by
 refine callType_codes (Q₁:=fun obj I=>obj=.ref s.heap.objs.size/\I={ s with heap:=s.heap.push { cls:=.type "dict",data:=.dict #[] } }) F.kt_called_dict (F.kt_typeCall_dict_1 _) F.entry_dict_init (kt_code_dict_new _ ⟨rfl,rfl⟩) ?_
 rintro obj I ⟨rfl,rfl⟩
 have B:(s.heap.push { cls:=.type "dict",data:=.dict #[] }).DictOf (ZL prog w) s.heap.objs.size []:=NU s.heap
 have tlt:t < s.heap.objs.size:=by obtain ⟨o,J,_⟩:=ht;exact Qi J
 obtain ⟨ot,G,oct,on,odt⟩:=id ht
 obtain ⟨o2,eo2,W⟩:=hnd0
 rw [G] at eo2
 cases eo2
 refine ⟨B.typeIs,F.args_dict_init_2 _ _,?_⟩
 unfold Tg.«dict.__init__»
 refine Qb ?_
 unfold Builtin.Dict.selfAndRest
 refine Qb (wpAny_notOrdered_dict B.typeIs ?_)
 show Qq _ _ (pure (s.heap.objs.size,[Qv t])) _ _ _
 refine Qh ?_
 show Qq _ _ (SI "dict.__init__" s.heap.objs.size (.ref t) [] .none) _ _ _
 unfold SI
 have hT:Oi { s with heap:=s.heap.push { cls:=.type "dict",data:=.dict #[] } } (.ref t) "tuple":=⟨ot,Qd _ G,oct⟩
 refine Qb (JM hT ?_)
 rw [if_pos (by decide)]
 obtain ⟨c0,d0,dt0,sl0⟩:=ot
 have e1:c0=.type "tuple":=oct
 have e2:d0=none:=W
 have e3:dt0=.seq z on:=odt
 subst e1 e2 e3
 refine Qb (ZgW (s:={ s with heap:=s.heap.push { cls:=.type "dict",data:=.dict #[] } }) (Qd _ G) hh fun h1 tk1 k1=>?_)
 rw [if_pos (show (none:Option Qc).isNone=true from rfl)]
 have Z:=k1 _ _ (Qd { cls:=.type "dict",data:=.dict #[] } G)
 have hd1:h1.DictOf (ZL prog w) s.heap.objs.size []:=by
  obtain ⟨o,es,ep,J,r⟩:=B
  exact ⟨o,es,ep,k1 _ _ J,r⟩
 have dlt:s.heap.objs.size < h1.objs.size:=by obtain ⟨o,es,ep,J,r⟩:=hd1;exact Qi J
 refine Qb (Jh (Qb (JT (items:=z) ⟨_,Z,rfl,on,rfl⟩ ?_)))
 refine Qh ⟨plainId_quiet XJ _,ZjT (A:=A.in1) ps hlen hnd hsz hh (GC (Qi Z)) (GC dlt) ps.length 0 _ 0 _ (by omega) (Qx _) ⟨_,Ql _ rfl,rfl,rfl⟩ ⟨_,Qd _ Z,rfl,on,rfl⟩ ?_ ?_ ?_⟩
 ·intro j v p a b
  exact (hpr j v p a b).keep fun b o y=>Qd _ (k1 _ _ (Qd _ y))
 ·obtain ⟨o,es,ep,J,r⟩:=hd1
  exact ⟨o,es,ep,Qd _ J,r⟩
 ·intro h' Y k3 hd3
  refine ⟨rfl,h h' Y (fun b o y=>?_) hd3⟩
  have y1:=k1 _ _ (Qd { cls:=.type "dict",data:=.dict #[] } y)
  exact k3 b o (Qt (Qi y1)) (Qt (Qi y)) (Qd _ y1)
end
section
variable {X:Cx}
theorem Ul (hc:X.calm=true):YH X (.type "dict") (fun xs H Q=>∃ (t:Addr) (ts:List Addr) (kvs:List (Str×V)),xs=[.ref t]/\(∃ o,H t=some (.frz o (.tup (ts.map V.ref)))/\o.dict=none)/\ts.length=kvs.length/\kvs.length<=1000 /\
   (∀ (i:Nat) (a:Addr) (p:Str×V),ts[i]?=some a->kvs[i]?=some p->H a=some (.tup [.str p.1,p.2]))/\(kvs.map (·.1)).Nodup/\∀ d,H d=none->Q (.ref d) (upd H d (.dK (kvs.map fun p=>(QH p.1,p.2))))):=by
 intro pins s σ H xs us Q I r h
 obtain ⟨t,ts,kvs,rfl,⟨W,Y,hdn⟩,z,hsz,hp,hnd,q⟩:=h
 have hq:SqT X.K H t (ts.map V.ref):=.inl (.inr ⟨W,Y⟩)
 have eo0:=(I.hok t _ Y).1
 obtain ⟨u,rfl,ru⟩:=YQ r
 cases ru
 obtain ⟨its,rv,pt,hz⟩:=I.tuple hq
 have Z:=Zen rv
 subst Z
 have B:∀ (kvs:List (Str×V)) (ts:List Addr),ts.length=kvs.length->(∀ (i:Nat) (a:Addr) (p:Str×V),ts[i]?=some a->kvs[i]?=some p->H a=some (.tup [.str p.1,p.2])) ->
     ∃ ps:List (Zn×Qc),KV (kvs.map fun p=>((QH p.1:Zn),p.2)) ps/\ps.length=kvs.length/\ps.map (·.1)=kvs.map (fun p=>(QH p.1:Zn))/\∀ (j:Nat) (v:Qc) (p:Zn×Qc),(ts.map Qv)[j]?=some v->ps[j]?=some p->PairAt X.prog X.w s.heap v p:=by
   intro kvs
   induction kvs with
   | nil=>intro ts _ _;exact ⟨[],.nil,rfl,rfl,fun j v p _ e=>by simp at e⟩
   | cons kv r ih =>
     intro ts hl hh
     cases ts with
     | nil=>simp at hl
     | cons a ar =>
       obtain ⟨ps,k1,k2,k3,k4⟩:=ih ar (by simpa using hl) fun i b p e1 G=>hh (i+1) b p (by simpa using e1) (by simpa using G)
       obtain ⟨_,itv,rv',pa⟩:=(show ObjOk X.prog X.w H s.heap a (.tup [.str kv.1,kv.2]) from I.hok a _ (hh 0 a kv rfl rfl))
       cases rv' with
       | cons r1 rr =>
         cases rr with
         | cons r2 rr =>
           cases rr
           obtain ⟨tk,e⟩:=r1
           subst e
           rename_i u2
           refine ⟨(QH kv.1,u2)::ps,.cons ⟨rfl,r2⟩ k1,by rw [length_cons,length_cons,k2],by rw [map_cons,map_cons,k3],fun j v p e1 G=>?_⟩
           cases j with
           | zero =>
             cases (show some (Qv a)=some v from e1)
             cases (show some ((QH kv.1:Zn),u2)=some p from G)
             exact ⟨a,.str kv.1 tk,rfl,pa,Zag _ _ _ _⟩
           | succ j=>exact k4 j v p (by simpa using e1) (by simpa using G)
 obtain ⟨ps,k1,k2,k3,k4⟩:=B kvs ts z hp
 have J:(ps.map (·.1)).Nodup:=by
   rw [k3]
   have:kvs.map (fun p=>(QH p.1:Zn))=(kvs.map (·.1)).map Sum.inr:=by rw [map_map];rfl
   rw [this]
   rw [List.Nodup,Ph]
   exact hnd.imp fun h e=>h (by cases e;rfl)
 refine ZcK ps pt ⟨W,eo0,hdn⟩ (by rw [k2,size_toArray,length_map,z]) J (by rw [k2];exact ZfF hsz) (I.ok.hd hc) (fun j v p e1 G=>k4 j v p (by simpa using e1) G) fun h' tk' kk hd=>?_
 have hbig:=I.big
 refine ⟨.ref s.heap.objs.size,_,I.laid (t':=tk') kk (Qf _) (show ObjOk X.prog X.w _ h' _ (.dK (kvs.map fun p=>((QH p.1:Zn),p.2))) from ⟨by rw [length_map];exact ZfF hsz,?_,ps,k1,hd⟩),rfl,q _ (I.hok.fresh (Qf _))⟩
 exact beq_eq_false_iff_ne.mpr (GC hbig)
end
section
variable {X:Cx}{pins:List (Addr×Obj)}{σ:List (Option V)}{H H':Hp}{s:Qe}{h':Heap}
theorem Inv.many {t':Nat}(I:Inv X pins σ H s)(k:∀ b u,s.heap.get? b=some u->h'.get? b=some u)(ext:Same H H')(new:∀ b,b < s.heap.objs.size->H' b=H b)(B:∀ b o,s.heap.objs.size<=b->H' b=some o->ObjOk X.prog X.w H' h' b o) :
 Inv X pins σ H' { s with heap:=h',toks:=t' }:=by
 refine I.step (g':=s.gens) (d':=s.drawn) (ch:=[]) (fun _ z=>nomatch z) (fun b o _ _ _ e _=>k b o e) (fun b o _ _ _ e _=>⟨o.slots,k b o e⟩) (fun b o _ e n=>by rw [new b (Qi e)];exact n) (fun b o _ e=>⟨o,k b o e⟩)
  (fun b xs e=>ext b _ e) (fun b o u e=>ext b _ e) (fun b ps e=>⟨#[],by rw [ext b _ e];simp⟩) (fun m J=>?_) (fun b u e=>?_) I.bare
 ·obtain ⟨o,es,ep,W,r⟩:=J
  exact ⟨o,es,ep,k _ o W,r⟩
 ·by_cases G:b < s.heap.objs.size
  ·rw [new b G] at e
   exact (I.hok b u e).stay (fun c v _ y=>k c v y) (fun c y=>ext c _ y) fun c xs y=>ext c _ y
  ·exact B b u (Nat.not_lt.mp G) e
end
def ZaO (v d:Addr):Heap->Prop:=fun h=>h.IsItemsView v d
def Vd (H:Hp):List (Addr×Zn×V)->Hp
 | []=>H
 | (a,k,v)::r=>upd (Vd H r) a (.tup [kV k,v])
theorem Zay :∀{l:List (Addr×Zn×V)},b ∉ l.map (·.1)->Vd H l b=H b
 | [],_=>rfl
 | (a,k,v)::r,h=>by
  rw [map_cons,mem_cons,not_or] at h
  show upd (Vd H r) a _ b=_
  rw [Zj h.1];exact Zay h.2
theorem ZeJ :∀{l:List (Addr×Zn×V)},(l.map (·.1)).Nodup->(a,k,v)∈l->Vd H l a=some (.tup [kV k,v])
 | (b,k',v')::r,hn,hm=>by
  rw [map_cons,nodup_cons] at hn
  show upd (Vd H r) b _ a=_
  rcases mem_cons.mp hm with e | hm
  ·cases e;exact Zh
  ·rw [Zj (fun z:a=b=>hn.1 (by show b∈_;rw [<- z];exact mem_map.mpr ⟨_,hm,rfl⟩))]
   exact ZeJ hn.2 hm
theorem Zmq (r:KV kvs vs):∀{j:Nat}{k:Zn}{x:Qc},vs[j]?=some (k,x)->∃ v,kvs[j]?=some (k,v)/\RelV v x:=by
 induction r with
 | nil=>intro j k x e;simp at e
 | cons h t ih =>
  intro j k x e
  cases j with
  | zero =>
   cases (show some _=some (k,x) from e)
   rename_i a _ _
   refine ⟨a.2,?_,h.2⟩
   have e1:a.1=k:=h.1
   show some a=some (k,a.2)
   rw [<- e1]
  | succ j=>exact ih (by simpa using e)
section
variable {X:Cx}
theorem ZiA:MtR X "dict.items" (fun x xs H Q=>∃ d kvs,x=.ref d/\xs=[]/\H d=some (.dK kvs)/\∀ v,H v=none->Q (.ref v) (upd H v (.ext (ZaO v d)))):=by
 intro pins s σ H x xs v us Q I B J h
 obtain ⟨d,kvs,rfl,rfl,e,q⟩:=h
 cases B
 cases J
 obtain ⟨W,lo,vs,Y,z⟩:=VO I.hok e
 refine Te SJ z.typeIs PySem.F.entry_dict_items (PySem.F.args_dict_items_1 _) (meets_dict_items (ZL X.prog X.w) d lo) ⟨⟨vs,z⟩,?_⟩
 refine ⟨.ref s.heap.objs.size,_,I.laid (t':=s.toks) (fun b o y=>Qd _ y) (Qf _) (show ObjOk X.prog X.w _ _ _ (.ext (ZaO s.heap.objs.size d)) from ⟨⟨_,Ql _ rfl,rfl,rfl⟩,⟨_,Ql _ rfl⟩,?_⟩),rfl,q _ (I.hok.fresh (Qf _))⟩
 rintro h1 h2 ⟨o,G,r⟩ k
 exact ⟨o,k _ G,r⟩
theorem ZaR (hc:X.calm=true):YH X (.type "list") (fun xs H Q=>∃ v d kvs,xs=[.ref v]/\H v=some (.ext (ZaO v d))/\H d=some (.dK kvs) /\
 ∀ (l:Addr) (ts:List Addr) (H2:Hp),H l=none->Same H H2->ts.length=kvs.length->(∀ a∈ts,H a=none)->(∀ (i:Nat) (a:Addr) (p:Zn×V),ts[i]?=some a->kvs[i]?=some p->H2 a=some (.tup [kV p.1,p.2]))->H2 l=some (.lst (ts.map V.ref))->Q (.ref l) H2):=by
 intro pins s σ H xs us Q I r h
 obtain ⟨v,d,kvs,rfl,ev,ed,q⟩:=h
 obtain ⟨u,rfl,ru⟩:=YQ r
 cases ru
 obtain ⟨hz,lo,vs,kv,o,es,ep,ho,r1,r2,r3,r4,r5⟩:=VO I.hok ed
 have hlen:vs.length=kvs.length:=(Pw kv).symm
 refine kdx_call (knd:=ZL X.prog X.w) (kvs:=vs) (ep:=ep) (I.ok.hd hc) (I.hok v _ ev).1 ⟨o,es,ho,r1,r2,r3,r4,r5⟩ (by rw [hlen];exact hz) fun h' tk acc c as hk hS hl hG W=>?_
 have hl2:as.length=kvs.length:=by rw [hl,hlen]
 have hnd:as.Nodup:=hG.rise.imp fun h=>Qt h
 generalize hL:as.zip (kvs.map fun p=>p)=L
 have J:L.map (·.1)=as:=by
  rw [<- hL,List.map_id']
  exact List.map_fst_zip (by omega)
 have at_j:∀ (j:Nat) (a:Addr) (p:Zn×V),as[j]?=some a->kvs[j]?=some p->(a,p.1,p.2)∈L:=fun j a p e1 e2=>by
  rw [<- hL,List.map_id']
  exact mem_of_getElem? (i:=j) (by rw [Gn];exact ⟨e1,e2⟩)
 have B:∀ a∈as,s.heap.objs.size < a:=hG.above
 have hfr:∀ b,s.heap.objs.size<=b->H b=none:=fun b Z=>I.hok.fresh Z
 have hnl:s.heap.objs.size ∉ L.map (·.1):=fun z=>by rw [J] at z;exact absurd (B _ z) (GR _)
 have Y:∀ b,b < s.heap.objs.size->b ∉ L.map (·.1):=fun b Z z=>by rw [J] at z;exact absurd (Nat.lt_trans (B _ z) Z) (GR _)
 have key:∀ b,b < s.heap.objs.size->upd (Vd H L) s.heap.objs.size (.lst (as.map V.ref)) b=H b:=fun b Z=>by rw [Zj (Qt Z),Zay (Y b Z)]
 have sm:Same H (upd (Vd H L) s.heap.objs.size (.lst (as.map V.ref))):=fun b o e=>by rw [key b (I.hok.lt e)];exact e
 have G:∀ (j:Nat) (a:Addr) (p:Zn×V),as[j]?=some a->kvs[j]?=some p->upd (Vd H L) s.heap.objs.size (.lst (as.map V.ref)) a=some (.tup [kV p.1,p.2]):=fun j a p e1 e2=>by
  rw [Zj (GC (B a (mem_of_getElem? e1)))]
  exact ZeJ (by rw [J];exact hnd) (at_j j a p e1 e2)
 have I2:Inv X pins σ (upd (Vd H L) s.heap.objs.size (.lst (as.map V.ref))) { s with heap:=h',toks:=tk }:=by
  refine I.many hk sm key fun b o Z e=>?_
  by_cases h0:b=s.heap.objs.size
  ·subst h0
   rw [Zh] at e
   cases e
   refine ⟨by rw [length_map,hl2];exact hz,acc.toList,c,?_,by rw [RO];exact hS⟩
   rw [W]
   clear W hl hG hl2 hnd hL J at_j B hnl Y key sm G
   induction as with
   | nil=>exact .nil
   | cons a r ih=>exact .cons rfl ih
  ·rw [Zj h0] at e
   by_cases hm:b∈as
   ·obtain ⟨j,hj⟩:=Jw.mp hm
    obtain ⟨keyv,kk,x,e1,e2,e3⟩:=hG.pairs j b hj
    obtain ⟨vv,e4,rel⟩:=Zmq kv e1
    have e5:=G j b (kk,vv) hj e4
    rw [Zj h0,e] at e5
    cases e5
    refine ⟨by show 2<=Qg;decide,[keyv,x],.cons ?_ (.cons rel .nil),⟨_,e3,rfl,_,rfl⟩⟩
    rw [ZfJ] at e2
    rcases Yu e2 with ⟨i,tt,rfl,rfl⟩ | ⟨y,tt,rfl,rfl⟩
    ·exact ⟨tt,rfl⟩
    ·exact ⟨tt,rfl⟩
   ·rw [Zay (by rw [J];exact hm),hfr b Z] at e
    cases e
 exact ⟨.ref s.heap.objs.size,_,I2,rfl,q _ as _ (hfr _ (Qf _)) sm hl2 (fun a ha=>hfr a (JJ (B a ha))) G Zh⟩
def ZnZ:TE:=fun _ H Q=>∀ p o,H p=none->o.dict=none->Q (.ref p) (upd H p (.frz o (.tup [])))
theorem ZeV {G:Nat}:PE X (.Tuple [] G pos) ZnZ:=by
 intro pins s σ H Q I Y
 refine RY (Zw (Za pos pins s σ H (fun xs H1=>xs=[]/\H1=H) I ⟨rfl,rfl⟩) fun us s1 J=>?_)
 obtain ⟨xs,H1,z,r,e1,W⟩:=J
 subst e1 W
 cases r
 refine ⟨Qx _,?_⟩
 have B:H1 s1.heap.objs.size=none:=z.hok.fresh (Qf _)
 exact ⟨.ref s1.heap.objs.size,_,z.laid (t':=s1.toks) (o:=.frz _ (.tup [])) (fun b u e=>Qd _ e) (Qf _) ⟨Ql _ rfl,Qx _,[],.nil,⟨_,Ql _ rfl,rfl,_,rfl⟩⟩,rfl,Y _ _ B rfl⟩
theorem Zaq:YH X (.type "tuple") (fun xs H Q=>∃ p ys,xs=[.ref p]/\SqL X.K H p ys/\∀ l o,H l=none->o.dict=none->Q (.ref l) (upd H l (.frz o (.tup ys)))):=by
 intro pins s σ H xs us Q I r h
 obtain ⟨p,ys,rfl,hq,q⟩:=h
 obtain ⟨u,rfl,Z⟩:=YQ r
 cases Z
 obtain ⟨z,J,pl,Y⟩:=I.list hq
 have W:=J.length
 refine NR pl.isList (fun h' kp=>?_) (by simp only [size_toArray]<;>omega)
 have G:Inv X pins σ H { s with heap:=h' }:=I.kept (t':=s.toks) kp
 have B:(h'.push { cls:=.type "tuple",data:=.seq z.toArray }).get? h'.objs.size=some { cls:=.type "tuple",data:=.seq z.toArray }:=Ql _ rfl
 exact ⟨.ref h'.objs.size,_,G.laid (t':=s.toks) (o:=.frz { cls:=.type "tuple",data:=.seq z.toArray } (.tup ys)) (fun b o e=>Qd _ e) (Qf _) ⟨B,Y,z,J,⟨_,B,rfl,_,rfl⟩⟩,rfl,q _ _ (G.hok.fresh (Qf _)) rfl⟩
end
section
variable {O:KeyOrd}{key:Nat->O.α}{n:Nat}{s:Qe}{cmp:Nat->Nat->(Bool->Qe->Prop)->Qe->Prop}
end
structure FunC (K:Qa)(x qual:Str)(st:Stmt)(f:Addr)(fd:Qm)(c Pl:Addr):Prop where
 ex:∃ (oc:Qc) (od:Option Addr) (kV doc pm:Qc) (an:Option Addr) (ct:Qc) (osl:Array (Option Qc)),
  fd=Pc x qual (VN st) (Wd st) (Zi st) .none kV doc pm an (.ref c) ct/\K.lookup f=some ⟨oc,od,.func fd,osl⟩/\RL K (.ref c) qual=true
 kp:Ja K (.ref f)=true
 hd:codeHdIn K c Pl=true
section
variable {P:Qk}{w:Qs}{K:Qa}{mg:Str->Option Qc}{base:Heap}
theorem FunC.ok {x qual:Str}{st:Stmt}{f c Pl:Addr}{fd:Qm}{N ps:List Str}{k:Nat}{sp:Sp}(F:FunC K x qual st f fd c Pl)(S:Zo N ps (Zi st)) 
 (z:∀ (A:QD) (outer:List Env) (s:Qe) (H:Hp) (vs:List V) (Q:VK) (E:XK),Room k (A.deeper (SX qual (Zi st) s.heap.objs.size f (.ref c)))->sp vs H Q E ->
  ∃ t,PSs (Yz ZI P w K mg base N qual (Zi st) f (.ref c) A outer s H E).nox (Wd st) t/\t { nx:=fun _ H'=>Q .non H',rt:=Q } (start N vs) H) (len:∀ vs H Q E,sp vs H Q E->vs.length=ps.length:=by intro _ _ _ _ h;first | (cases h;subst_vars;rfl) | (repeat (first | exact congrArg Sa h.1 | (obtain ⟨_,h⟩:=h)))):FnOk P w K mg base ZI (k+1) f fd ps sp:=by
 obtain ⟨Y,Z,kV,I,pm,an,ct,J,rfl,lk,B⟩:=F.ex
 refine Zkc lk B S len fun A outer s H vs Q E W G=>?_
 obtain ⟨t,h,q⟩:=z A outer s H vs Q E W G
 exact ⟨t,h.nox,q⟩
theorem FunC.fn {x qual:Str}{st:Stmt}{f c Pl:Addr}{fd:Qm}(F:FunC K x qual st f fd c Pl):Fun K x qual st f fd:=by
 obtain ⟨I,J,kV,z,Y,W,Z,B,e,lk,G⟩:=F.ex
 exact ⟨⟨I,J,kV,z,Y,W,.ref c,Z,B,e,lk,G⟩,F.kp⟩
end
theorem Zkm {X:Cx}{st:Stmt}:PS X st (fun _ _ _=>False):=fun _ _ _ _ _ _ h=>h.elim
structure TF (H H':Hp):Prop where
 tup:∀ b xs,H b=some (.tup xs)->H' b=some (.tup xs)
 frz:∀ b o u,H b=some (.frz o u)->H' b=some (.frz o u)
theorem TF.trans (a:TF H H1)(b:TF H1 H2):TF H H2:=⟨fun x xs h=>b.tup x xs (a.tup x xs h),fun x o u h=>b.frz x o u (a.frz x o u h)⟩
theorem Same.tf (h:Same H H'):TF H H':=⟨fun b _ e=>h b _ e,fun b _ _ e=>h b _ e⟩
theorem Grown.tf (h:Grown Pl H H')(e:H Pl=some (.tbl ps)):TF H H' :=
 ⟨fun b _ y=>h b _ (fun z=>by rw [z,e] at y;cases y) y,fun b _ _ y=>h b _ (fun z=>by rw [z,e] at y;cases y) y⟩
theorem LamAt.tbl (h:LamAt H Pl lpos qual):∃ ps,H Pl=some (.tbl ps):=by
 rcases h with h | ⟨_,h,_⟩
 ·exact ⟨_,h⟩
 ·exact ⟨_,h⟩
theorem Zek {o:HO}(h:H l=some (.lst xs)):TF H (upd H l o) :=
 ⟨fun b _ y=>by rw [Zj (fun z=>by rw [z,h] at y;cases y)];exact y,fun b _ _ y=>by rw [Zj (fun z=>by rw [z,h] at y;cases y)];exact y⟩
theorem ZlB {o:HO}(h:H l=some (.dK xs)):TF H (upd H l o) :=
 ⟨fun b _ y=>by rw [Zj (fun z=>by rw [z,h] at y;cases y)];exact y,fun b _ _ y=>by rw [Zj (fun z=>by rw [z,h] at y;cases y)];exact y⟩
theorem SqT.tf {K:Qa}{H H':Hp}{a:Addr}{xs:List V}(h:SqT K H a xs)(t:TF H H'):SqT K H' a xs:=by
 rcases h with (h | ⟨o,h⟩) | h
 ·exact .inl (.inl (t.tup _ _ h))
 ·exact .inl (.inr ⟨o,t.frz _ _ _ h⟩)
 ·exact .inr h
inductive Nd where
 | bare
 | leaf (m:Int) (ps:List (Str×V))
 | fork (qs:List Nat)
def Nd.parts:Nd->List Nat
 | .fork qs=>qs
 | _=>[]
def Nd.pairs:Nd->List (Str×V)
 | .leaf _ ps=>ps
 | _=>[]
def Nd.hasM (n:Int):Nd->Bool
 | .leaf m _=>decide (m=n)
 | _=>false
def PairT (H:Hp)(ts:List Addr)(ps:List (Str×V)):Prop:=ts.length=ps.length/\∀(i:Nat)(a:Addr)(p:Str×V),ts[i]?=some a->ps[i]?=some p->H a=some (.tup [.str p.1,p.2])
def PairsAt (H:Hp)(t:Addr)(ps:List (Str×V)):Prop:=∃ o ts,H t=some (.frz o (.tup (ts.map V.ref)))/\o.dict=none/\PairT H ts ps
def NodeAt (K:Qa)(H:Hp)(a:Addr):Nd->Prop
 | .bare=>SqT K H a [.str "bare"]
 | .leaf m ps=>∃ t,SqT K H a [.str "leaf",.int m,.ref t]/\PairsAt H t ps
 | .fork qs=>∃ t,SqT K H a [.str "fork",.ref t]/\SqT K H t (qs.map fun q:Nat=>V.int (q:Int))/\qs.length=4
theorem PairT.tf (h:PairT H ts ps)(t:TF H H'):PairT H' ts ps:=⟨h.1,fun i a p e1 z=>t.tup _ _ (h.2 i a p e1 z)⟩
theorem PairsAt.tf (h:PairsAt H t ps)(f:TF H H'):PairsAt H' t ps:=by
 obtain ⟨o,ts,e,d,p⟩:=h
 exact ⟨o,ts,f.frz _ _ _ e,d,p.tf f⟩
theorem NodeAt.tf {K:Qa}{H H':Hp}{a:Addr}{n:Nd}(h:NodeAt K H a n)(f:TF H H'):NodeAt K H' a n:=by
 cases n with
 | bare=>exact SqT.tf h f
 | leaf m ps=>obtain ⟨t,e,p⟩:=h;exact ⟨t,e.tf f,p.tf f⟩
 | fork qs=>obtain ⟨t,e,p,l⟩:=h;exact ⟨t,e.tf f,p.tf f,l⟩
inductive Ua (K:Qa)(vs:List V)(H:Hp)(Q:VK)(w_3:XK):Prop
 | mk (a:Addr) (n:Nd):vs=[.ref a]->NodeAt K H a n->(∀ t H',Same H H'->SqT K H' t (n.parts.map fun q:Nat=>V.int (q:Int))->Q (.ref t) H')->Ua K vs H Q w_3
inductive Wi (K:Qa)(vs:List V)(H:Hp)(Q:VK)(w_3:XK):Prop
 | mk (a:Addr) (n:Nd):vs=[.ref a]->NodeAt K H a n->(∀ t H',Same H H'->PairsAt H' t n.pairs->Q (.ref t) H')->Wi K vs H Q w_3
inductive UM (K:Qa)(vs:List V)(H:Hp)(Q:VK)(w_3:XK):Prop
 | mk (a:Addr) (n:Nd) (m:Int):vs=[.ref a,.int m]->NodeAt K H a n->Q (.bl (n.hasM m)) H->UM K vs H Q w_3
inductive WE (K:Qa)(vs:List V)(H:Hp)(Q:VK)(w_3:XK):Prop
 | mk (l:Addr) (qs:List Nat):vs=[.ref l]->(H l=some (.lst (qs.map fun q:Nat=>V.int (q:Int))))->qs.length=4->(∀ a H',Same H H'->NodeAt K H' a (.fork qs)->Q (.ref a) H')->WE K vs H Q w_3
end L2
namespace L2
open PySem
def CompV (J:It)(tc:TT)(te:TE)(σ:St)(D:Addr)(Q:VK)(H1:Hp):Prop :=
 ∃ W : Nat->Nat->List V->Hp->Prop,(∃ m,W 0 m [] (upd H1 D (.lst [])))/\∀ i m ys H2,W i m ys H2 ->
  (J.stop i H2/\Q (.ref D) H2)\/(J.go i H2/\∃ (N:VK) (M:Hp->Prop),(∀ y H4,N y H4->H4 D=some (.lst ys)/\ys.length < Qg/\∃ m',m' < m/\W (i+1) m' (ys++[y]) (upd H4 D (.lst (ys++[y]))))/\(∀ H4,M H4->∃ m',m' < m/\W (i+1) m' ys H4) /\
   ∀ v H3,J.yld i H2 v H3->tc (σ++[some v]) H3 fun b H4=>if b=true then te (σ++[some v]) H4 N else M H4)
def ZmZ (wi:TI)(tc:TT)(te:TE):TE:=fun σ H Q=>wi σ H fun J H1=>∀ D,H1 D=none->CompV J tc te σ D Q H1
theorem CompV.n {J:It}{tc:TT}{te:TE}{σ:St}{D:Addr}{Q:VK}{H:Hp}{n:Nat}(hn:σ.length=n)(h:CompV J tc te σ D Q H):VJ J (UY n) tc te 1 (fun σ B=>∃ w,B=σ++[w]) σ D Q H:=by
 obtain ⟨W,w0,t⟩:=h
 refine ⟨W,w0,fun i m ys H2 w2=>(t i m ys H2 w2).imp (fun z=>z) fun zz=>?_⟩
 obtain ⟨go,N,M,Z,hM,I⟩:=zz
 refine ⟨go,N,M,Z,hM,fun Y v G hl y=>?_⟩
 match Y,hl with
 | [w],_ =>
  show (∃ w',(σ++[w]).set n (some v)=σ++[w'])/\tc ((σ++[w]).set n (some v)) G _
  rw [set1 hn]
  exact ⟨⟨_,rfl⟩,I v G y⟩
section
variable {X:Cx}{elt iter cnd:Expr}{x:Str}{px pos:Pos}{scope:Scope}{wi:TI}{te:TE}{tc:TT}
theorem Zah {i:Nat}(O:CompOk X scope x)(hc:X.calm=true)(hN:X.N.Nodup)(W:X.N[i]?=some y)(hy:Loc X.env.scope y)(hi:PI X (.Name x px) iter wi)(Z:∀ I C B z fp,PT (Zdm X scope x I C B z fp) cnd tc)(he:∀ I C B z fp,PE (Zdm X scope x I C B z fp) elt te)(Y:Sx (.ListComp elt [⟨.Name x px,iter,[cnd],0⟩] scope pos) (some (.Name y py)) G.line X.env=pure true)(hf:X.fn y=true\/X.env.scope.names.lookup y=some .local:=by first | exact .inl rfl | exact .inr rfl | assumption)(hs:∀ v,GL iter X.env v=pure v:=by intro _;rfl):PS X (.Assign [.Name y py] (.ListComp elt [⟨.Name x px,iter,[cnd],0⟩] scope pos) G) (Zgq (ZmZ wi tc te) (UY i)) :=
 Zew (CW:=fun J σ D Q H=>CompV J tc te σ D Q H) O hc hN W hy hi (fun _ _ _ _ _ hl h=>h.n hl) ok1 (Zhq O) (fun I C B z fp=>.inr ⟨_,rfl,Z I C B z fp⟩) he Y hf hs
end
theorem ZgD {K:Qa}(hn:xs.length<=Qg)(z:Nat->List V->Hp->Prop)(W:z 0 [] (upd H D (.lst [])))(Y:∀ i ys H,z i ys H->ys.length<=i/\SqT K H a xs)(hs:∀ i x ys H,xs[i]?=some x->z i ys H->tc (σ++[some x]) H fun b I=>if b=true then te (σ++[some x]) I fun y G=>G D=some (.lst ys)/\z (i+1) (ys++[y]) (upd G D (.lst (ys++[y]))) else z (i+1) ys I)(Z:∀ ys H,z xs.length ys H->Q (.ref D) H):CompV (Itt K a) tc te σ D Q H:=by
 refine ⟨fun i m ys H=>m=xs.length - i/\i<=xs.length/\z i ys H,⟨xs.length,by simp,Qx _,W⟩,?_⟩
 rintro i m ys H2 ⟨rfl,hi,p⟩
 obtain ⟨J,q⟩:=Y i ys _ p
 by_cases B:i < xs.length
 ·refine .inr ⟨⟨xs,xs[i],q,by simp [B]⟩,_,_,fun y G (q:G D=some (.lst ys)/\z (i+1) (ys++[y]) (upd G D (.lst (ys++[y]))))=>⟨q.1,by omega,xs.length - (i+1),by omega,rfl,B,q.2⟩,fun G (q:z (i+1) ys G)=>⟨xs.length - (i+1),by omega,rfl,B,q⟩,fun v I y=>?_⟩
  obtain ⟨e,y⟩:=y
  subst e
  exact hs i v ys _ (y xs q) p
 ·have e:i=xs.length:=by omega
  subst e
  exact .inl ⟨⟨xs,q,Qf _⟩,Z ys H2 p⟩
theorem Zfw {K:Qa}(hn:xs.length<=Qg)(z:Nat->List V->Hp->Prop)(W:z 0 [] (upd H D (.lst [])))(Y:∀ i ys H,z i ys H->ys.length<=i/\SqL K H a xs)(hs:∀ i x ys H,xs[i]?=some x->z i ys H->tc (σ++[some x]) H fun b I=>if b=true then te (σ++[some x]) I fun y G=>G D=some (.lst ys)/\z (i+1) (ys++[y]) (upd G D (.lst (ys++[y]))) else z (i+1) ys I)(Z:∀ ys H,z xs.length ys H->Q (.ref D) H):CompV (Itl K a) tc te σ D Q H:=by
 refine ⟨fun i m ys H=>m=xs.length - i/\i<=xs.length/\z i ys H,⟨xs.length,by simp,Qx _,W⟩,?_⟩
 rintro i m ys H2 ⟨rfl,hi,p⟩
 obtain ⟨J,q⟩:=Y i ys _ p
 by_cases B:i < xs.length
 ·refine .inr ⟨⟨xs,xs[i],q,by simp [B]⟩,_,_,fun y G (q:G D=some (.lst ys)/\z (i+1) (ys++[y]) (upd G D (.lst (ys++[y]))))=>⟨q.1,by omega,xs.length - (i+1),by omega,rfl,B,q.2⟩,fun G (q:z (i+1) ys G)=>⟨xs.length - (i+1),by omega,rfl,B,q⟩,fun v I y=>?_⟩
  obtain ⟨e,y⟩:=y
  subst e
  exact hs i v ys _ (y xs q) p
 ·have e:i=xs.length:=by omega
  subst e
  exact .inl ⟨⟨xs,q,Qf _⟩,Z ys H2 p⟩
end L2
namespace L2
open PySem PySem.Spec PyProof.Rows
theorem ok2:∀ σ z:St,(∃ G B,z=σ++[G,B])->∃ I:St,I.length=[xa,xb].length/\z=σ++I:=fun _ _ ⟨G,B,e⟩=>⟨[G,B],rfl,e⟩
section
variable {X:Cx}{elt iter tg:Expr}{xa xb:Str}{pos:Pos}{scope:Scope}{wi:TI}{te:TE}{g:TG}
end
def CompVT (J:It)(g:TG)(tc:TT)(te:TE)(σ:St)(D:Addr)(Q:VK)(H1:Hp):Prop :=
 ∃ W : Nat->Nat->List V->Hp->Prop,(∃ m,W 0 m [] (upd H1 D (.lst [])))/\∀ i m ys H2,W i m ys H2 ->
  (J.stop i H2/\Q (.ref D) H2)\/(J.go i H2/\∃ (N:VK) (M:Hp->Prop),(∀ y H4,N y H4->H4 D=some (.lst ys)/\ys.length < Qg/\∃ m',m' < m/\W (i+1) m' (ys++[y]) (upd H4 D (.lst (ys++[y]))))/\(∀ H4,M H4->∃ m',m' < m/\W (i+1) m' ys H4) /\
   ∀ wa wb v H3,J.yld i H2 v H3->g v (σ++[wa,wb]) H3 fun σ' H'=>(∃ wa wb,σ'=σ++[wa,wb])/\tc σ' H' fun b H4=>if b=true then te σ' H4 N else M H4)
def Zlz (wi:TI)(g:TG)(tc:TT)(te:TE):TE:=fun σ H Q=>wi σ H fun J H1=>∀ D,H1 D=none->CompVT J g tc te σ D Q H1
theorem CompVT.n (h:CompVT J g tc te σ D Q H):VJ J g tc te 2 (fun σ B=>∃ G I,B=σ++[G,I]) σ D Q H:=by
 obtain ⟨W,w0,t⟩:=h
 refine ⟨W,w0,fun i m ys H2 w2=>(t i m ys H2 w2).imp (fun z=>z) fun zz=>?_⟩
 obtain ⟨go,N,M,hN,hM,Y⟩:=zz
 refine ⟨go,N,M,hN,hM,fun Z v H3 hl y=>?_⟩
 match Z,hl with
 | [G,I],_=>exact Y G I v H3 y
section
variable {X:Cx}{elt iter tg cnd:Expr}{xa xb:Str}{pos:Pos}{scope:Scope}{wi:TI}{te:TE}{tc:TT}{g:TG}
theorem Zhp (O:CompOkT X scope xa xb)(Y:X.calm=true)(hi:PI X tg iter wi)(W:∀ G C B z fp,PG (ZbH X scope xa xb G C B z fp) tg g)(I:∀ G C B z fp,PT (ZbH X scope xa xb G C B z fp) cnd tc)(Z:∀ G C B z fp,PE (ZbH X scope xa xb G C B z fp) elt te)
 (hs:∀ v,GL iter X.env v=pure v:=by intro _;rfl):PE X (.ListComp elt [⟨tg,iter,[cnd],0⟩] scope pos) (Zlz wi g tc te) :=
 ZdM (CW:=fun J σ D Q H=>CompVT J g tc te σ D Q H) O Y hi (fun _ _ _ _ _ _ h=>h.n) ok2 W (fun G C B z fp=>.inr ⟨_,rfl,I G C B z fp⟩) Z hs
end
end L2
namespace L2
open PySem
def Yn:HO->Bool
 | .tup _=>false
 | .frz _ _=>false
 | .own _=>false
 | .met _ _=>false
 | .rng _ _=>false
 | .ext _=>false
 | _=>true
def Um (H h:Hp):Hp:=fun b=>match h b with
 | some o=>if Yn o=true then none else H b
 | none=>H b
def one (p:Addr)(o:HO):Hp:=fun b=>if b=p then some o else none
theorem one_some :one p o b=some u↔b=p/\o=u:=by
 unfold one
 by_cases h:b=p
 ·rw [if_pos h];exact ⟨fun z=>⟨h,Qu z⟩,fun z=>by rw [z.2]⟩
 ·rw [if_neg h];exact ⟨fun z=>(by cases z),fun z=>absurd z.1 h⟩
abbrev Yv:=Addr->Hp->Prop
abbrev Rs:=List (Addr×Yv)
def Sep:Rs->Hp->Prop
 | [],_=>True
 | (a,R)::Δ,H=>∃ h,Same h H/\R a h/\Sep Δ (Um H h)
theorem cut_some :Um H h b=some o↔H b=some o/\∀ u,h b=some u->Yn u=false:=by
 unfold Um
 cases e:h b with
 | none=>exact ⟨fun z=>⟨z,fun u q=>by cases q⟩,fun z=>z.1⟩
 | some v =>
  cases m:Yn v with
  | true=>show (if Yn v=true then none else H b)=some o↔_;rw [if_pos m];exact ⟨fun z=>(by cases z),fun z=>(by have:=z.2 v rfl;rw [m] at this;cases this)⟩
  | false=>show (if Yn v=true then none else H b)=some o↔_;rw [if_neg (by rw [m];decide)];exact ⟨fun z=>⟨z,fun u q=>(by cases q;exact m)⟩,fun z=>z.1⟩
theorem ZaU :Same (Um H h) H:=fun b o e=>(cut_some.mp e).1
theorem Zdo (s:Same H H'):Same (Um H h) (Um H' h):=fun b o e=>let ⟨x,y⟩:=cut_some.mp e;cut_some.mpr ⟨s _ _ x,y⟩
theorem Sep.mono:∀{Δ:Rs}{H H':Hp},Sep Δ H->Same H H'->Sep Δ H'
 | [],_,_,_,_=>trivial
 | (_,_)::_,_,_,⟨h,l,r,S⟩,s=>⟨h,l.trans s,r,S.mono (Zdo s)⟩
theorem Sep.swap (S:Sep ((a,R)::(b,T)::Δ) H):Sep ((b,T)::(a,R)::Δ) H:=by
 obtain ⟨h,l,r,g,m,t,S⟩:=S
 refine ⟨g,m.trans ZaU,t,h,fun c o e=>cut_some.mpr ⟨l _ _ e,fun u q=>?_⟩,r,S.mono fun c o e=>?_⟩
 ·obtain ⟨J,I⟩:=cut_some.mp (m _ _ q)
  have z:=l _ _ e
  rw [J] at z;cases z
  exact I _ e
 ·obtain ⟨e1,z⟩:=cut_some.mp e
  obtain ⟨G,B⟩:=cut_some.mp e1
  exact cut_some.mpr ⟨cut_some.mpr ⟨G,z⟩,B⟩
theorem Sep.tail (S:Sep ((a,R)::Δ) H):Sep Δ H:=by
 obtain ⟨h,l,r,S⟩:=S
 exact S.mono ZaU
class Pull (a:Addr) (Δ:Rs) (R:outParam Yv) (Δ':outParam Rs):Prop where
 out:∀ {H},Sep Δ H->Sep ((a,R)::Δ') H
instance (priority:=1000) Pull.here {a:Addr} {R:Yv} {Δ:Rs}:Pull a ((a,R)::Δ) R Δ:=⟨fun S=>S⟩
instance (priority:=900) Pull.there {a b:Addr} {R T:Yv} {Δ Δ':Rs} [P:Pull a Δ R Δ']:Pull a ((b,T)::Δ) R ((b,T)::Δ') :=
 ⟨fun S=>by
  obtain ⟨h,l,r,S⟩:=S
  exact Sep.swap ⟨h,l,r,P.out S⟩⟩
theorem Sep.pull (S:Sep Δ H)(a:Addr)[P:Pull a Δ R z]:Sep ((a,R)::z) H:=P.out S
theorem Sep.drop (S:Sep Δ H)(a:Addr)[P:Pull a Δ R z]:Sep z H:=(P.out S).tail
class Up (R:Yv):Prop where
 up:∀ {a:Addr} {H H':Hp},R a H->Same H H'->R a H'
theorem Sep.get (S:Sep Δ H)(a:Addr)[P:Pull a Δ R z][U:Up R]:R a H:=by
 obtain ⟨h,l,r,_⟩:=P.out S
 exact U.up r l
def Pt (o:HO):Yv:=fun a h=>h a=some o
abbrev ZO (xs:List V):Yv:=Pt (.lst xs)
abbrev Dic (kv:List (Zn×V)):Yv:=Pt (.dK kv)
abbrev Wm (xs:List V):Yv:=Pt (.tup xs)
instance {o:HO}:Up (Pt o):=⟨fun h s=>s _ _ h⟩
theorem Sep.new (S:Sep Δ H){p:Addr}(hp:H p=none)(o:HO):Sep ((p,Pt o)::Δ) (upd H p o):=by
 refine ⟨one p o,fun b u e=>?_,one_some.mpr ⟨rfl,rfl⟩,S.mono fun b u e=>?_⟩
 ·obtain ⟨rfl,rfl⟩:=one_some.mp e;exact Zh
 ·have z:=Zx e hp
  exact cut_some.mpr ⟨by rw [Zj z];exact e,fun v q=>absurd (one_some.mp q).1 z⟩
theorem Sep.made (S:Sep Δ H)(s:Same H H')(hp:H p=none)(e:H' p=some o):Sep ((p,Pt o)::Δ) H':=by
 refine ⟨one p o,fun b u q=>?_,one_some.mpr ⟨rfl,rfl⟩,S.mono fun b u q=>?_⟩
 ·obtain ⟨rfl,rfl⟩:=one_some.mp q;exact e
 ·have z:=Zx q hp
  exact cut_some.mpr ⟨s _ _ q,fun v q=>absurd (one_some.mp q).1 z⟩
theorem Sep.put (S:Sep Δ H)(a:Addr)(o':HO)[P:Pull a Δ (Pt o) B](m:Yn o=true:=by rfl):Sep ((a,Pt o')::B) (upd H a o'):=by
 obtain ⟨h,l,r,S⟩:=P.out S
 refine ⟨one a o',fun b u q=>?_,one_some.mpr ⟨rfl,rfl⟩,S.mono fun b u q=>?_⟩
 ·obtain ⟨rfl,rfl⟩:=one_some.mp q;exact Zh
 ·obtain ⟨J,I⟩:=cut_some.mp q
  have G:b≠a:=fun z=>by
   have:=I o (by rw [z];exact r)
   rw [m] at this;cases this
  exact cut_some.mpr ⟨by rw [Zj G];exact J,fun v q=>absurd (one_some.mp q).1 G⟩
theorem Sep.say (S:Sep Δ H)(a:Addr)(T:Yv)[P:Pull a Δ R z](f:∀ h,R a h->T a h):Sep ((a,T)::z) H:=by
 obtain ⟨h,l,r,S⟩:=P.out S
 exact ⟨h,l,f h r,S⟩
theorem Sep.call {Δ:Rs}{H H':Hp}{a:Addr}{R T:Yv}{L:List Addr}(S:Sep ((a,R)::Δ) H)(k:∀ b o,b ∉ L->H b=some o->H' b=some o)
 (f:∀ h,Same h H->R a h->(∀ b∈L,∃ o,h b=some o/\Yn o=true)/\∃ h',Same h' H'/\T a h'/\∀ b o,h' b=some o->Yn o=true->b∈L\/H b=none\/∃ u,h b=some u/\Yn u=true):Sep ((a,T)::Δ) H':=by
 obtain ⟨h,l,r,S⟩:=S
 obtain ⟨Y,h',W,t,f2⟩:=f h l r
 refine ⟨h',W,t,S.mono fun b o e=>?_⟩
 obtain ⟨e1,I⟩:=cut_some.mp e
 have G:b ∉ L:=fun z=>by
  obtain ⟨u,q1,J⟩:=Y b z
  rw [I u q1] at J;cases J
 refine cut_some.mpr ⟨k b o G e1,fun u q=>?_⟩
 cases m:Yn u with
 | false=>rfl
 | true =>
  rcases f2 b u q m with z | z | ⟨v,Z,B⟩
  ·exact absurd z G
  ·rw [e1] at z;cases z
  ·rw [I v Z] at B;cases B
abbrev Bx (n:Nat):Yv:=fun a h=>BoxAt h a n
instance {n:Nat}:Up (Bx n):=⟨fun h s=>h.same s⟩
theorem Sep.box {n m:Nat}(S:Sep ((p,Bx n)::Δ) H)(k:Kp p H H')(B:BoxAt H' p m):Sep ((p,Bx m)::Δ) H':=by
 refine S.call (L:=[p]) (fun b o I e=>k b o (fun z=>I (by simp [z])) e) fun h l r=>⟨fun b G=>?_,?_⟩
 ·rw [mem_singleton.mp G]
  obtain ⟨x,y,z,e,_⟩:=r
  exact ⟨_,e,rfl⟩
 ·obtain ⟨x,y,z,e,w⟩:=B
  refine ⟨one p (.lst [.int x,.int y,.int z]),fun b u q=>?_,⟨x,y,z,one_some.mpr ⟨rfl,rfl⟩,w⟩,fun b o q _=>.inl (by simp [(one_some.mp q).1])⟩
  obtain ⟨rfl,rfl⟩:=one_some.mp q;exact e
inductive Zcd (M:Int)(vs:List V)(H:Hp)(Q:VK)(w_3:XK):Prop
 | mk (p:Addr) (n:Nat) (m:Int) (Δ:Rs):vs=[.ref p,.int m]->Sep ((p,Bx n)::Δ) H->n<=1000000->0 < m->m < M->(∀ (r:Int) (H':Hp),0<=r->r < m->Sep ((p,Bx (n+1))::Δ) H'->Q (.int r) H')->Zcd M vs H Q w_3
theorem Znh {M:Int}(h:Zcd M vs H Q E):VI M vs H Q E:=by
 obtain ⟨p,n,m,Δ,e,S,h1,h2,z,q⟩:=h
 exact ⟨p,n,m,e,S.get p,h1,h2,z,fun r H' a b B k=>q r H' a b (S.box k B)⟩
theorem Zga (h:Zft u=some x):RelV x u:=by
 cases u<;>first | (cases h;exact rfl) | (cases h;exact ⟨_,rfl⟩) | cases h
theorem Zak:∀{xs:List V}{us:List Qc},us.map Zft=xs.map some->Vals xs us
 | [],[],_=>.nil
 | [],_::_,h=>by cases h
 | _::_,[],h=>by cases h
 | x::xs,u::us,h=>by
  rw [map_cons,map_cons,List.cons.injEq] at h
  exact .cons (Zga h.1) (Zak h.2)
def ZcZ (K:Qa)(a:Addr)(vs:List V):Bool:=match K.lookup a with
 | some ⟨.type "tuple",_,.seq its _,_⟩=>decide (its.size<=100000)&&decide (its.toList.map Zft=vs.map some)
 | _=>false
theorem Zem (h:ZcZ K a vs=true)(H:Hp):SqT K H a vs:=by
 unfold ZcZ at h
 split at h
 ·rename_i z n _ B
  simp only [QI,decide_eq_true_eq] at h
  exact .inr ⟨_,z,n,B,rfl,rfl,Qo h.1 (by decide),Zak h.2⟩
 ·cases h
structure Yj (mg:Str->Option Qc):Prop where
 len:mg "len"=none
 abs:mg "abs"=none
 int:mg "int"=none
 range:mg "range"=none
 min:mg "min"=none
 max:mg "max"=none
 repr:mg "repr"=none
 enumerate:mg "enumerate"=none
 ord:mg "ord"=none
 list:mg "list"=none
 tuple:mg "tuple"=none
 dict:mg "dict"=none
 sorted:mg "sorted"=none
 sum:mg "sum"=none
 all:mg "all"=none
 any:mg "any"=none
 divmod:mg "divmod"=none
 str:mg "str"=none
 isinstance:mg "isinstance"=none
 set:mg "set"=none
 zip:mg "zip"=none
 reversed:mg "reversed"=none
 bool:mg "bool"=none
abbrev DTk (P:Qk)(w:Qs)(K:Qa)(mg:Str->Option Qc)(base:Heap)(k:Nat):Prop:=Def P w K mg base k "_law_take" ["_law_box_here","_law_many"] (Zcd 4611686018427387904)
theorem FnOk.conv {k:Nat}{sp sp':Sp}(F:FnOk P w K mg base ZI k f fd ps sp)(h:∀ vs H Q E,sp' vs H Q E->sp vs H Q E):FnOk P w K mg base ZI k f fd ps sp' :=
 ⟨fun vs H Q E z=>F.len vs H Q E (h vs H Q E z),fun A outer s H args us vs Q E J I B G z=>F.run A outer s H args us vs Q E J I B G (h vs H Q E z)⟩
theorem Def.conv {k:Nat}{sp sp':Sp}(D:Def P w K mg base k x ps sp)(h:∀ vs H Q E,sp' vs H Q E->sp vs H Q E):Def P w K mg base k x ps sp' :=
 let ⟨f,fd,F,b,kp,m⟩:=D;⟨f,fd,F.conv h,b,kp,m⟩
theorem ZaP {B:Type}{xs:List B}{r:Int}{v:B}(G:0<=r)(h:xs[r.toNat]?=some v):YR xs r=some v:=by
 have z:YR xs ((r.toNat:Nat):Int)=some v:=Zm h
 rwa [show ((r.toNat:Nat):Int)=r by omega] at z
theorem Yw {n m:Nat}(h:n<=m)(z:m<=100000:=by decide):n<=sizeLine:=Qo (Qo h z) (by decide)
theorem Xn {n m:Nat}(h:n<=m)(z:m<=100000:=by decide):n < sizeLine:=QW (Qo h z) (by decide)
def DefM (P:Qk)(w:Qs)(K:Qa)(mg:Str->Option Qc)(base:Heap)(k:Nat)(C:Addr)(m:Str)(ps:List Str)(sp:Sp):Prop:=∃ f fd,FnOk P w K mg base ZI k f fd ps sp/\Binds K fd ps []/\Zam K C m f
theorem DefM.mono {j k:Nat}(D:DefM P w K mg base j C m ps sp)(h:j<=k):DefM P w K mg base k C m ps sp :=
 let ⟨f,fd,F,b,q⟩:=D;⟨f,fd,F.mono h,b,q⟩
section
variable {X:Cx}{k:Nat}{C:Addr}{m:Str}{ps:List Str}{sp:Sp}{pos apos:Pos}{o e:Expr}{es:List Expr}{ta:TE}{t:TA}
theorem Yo (D:DefM X.prog X.w X.K X.mg X.base k C m ps sp)(c:Cls X.K C)(J:Room k X.A)(I:PE X o ta)(Y:PA X (e::es) t)(B:QA (e::es) X.env=(false,eval e X.env)::QA es X.env:=by rfl)(z:(GZ pos (QA es X.env)).any (·.1)=false:=by rfl)(W:eval (.Call (.Attribute o m apos) (e::es) [] pos) X.env=(do
  let G <- eval o X.env
  TW apos.atName
  let (f,first) <- JL [G] (Sy G m pl)
  RJ pos f first (GZ pos (QA (e::es) X.env)) (PJ pos (Jg [] X.env))):=by rfl):
 PE X (.Call (.Attribute o m apos) (e::es) [] pos) (ZcX C m sp [] E0 ta t):=by
 obtain ⟨f,fd,F,b,q⟩:=D
 exact Zlj I c q F J b .nil ZcQ Y B z W
end
def Kq (S:List Addr)(H H':Hp):Prop:=∀ b o,b ∉ S->H b=some o->H' b=some o
theorem Kq.trans (a:Kq S H H1)(b:Kq S H1 H2):Kq S H H2:=fun x o n h=>b x o n (a x o n h)
theorem Kq.sub (a:Kq S H H')(h:∀ b∈S,b∈B):Kq B H H':=fun x o n e=>a x o (fun z=>n (h x z)) e
theorem Same.kq (h:Same H H'):Kq S H H':=fun b o _ e=>h b o e
theorem Zbg :Kq [a] H (upd H a o):=fun b u n e=>by rw [Zj (fun z=>n (by simp [z]))];exact e
theorem tn:¬ (("nodes":Str)="tables"):=by decide +kernel
def Zat (ln dt:Addr):List (Str×V):=XB "tables" (.ref dt) (XB "nodes" (.ref ln) [])
theorem XQ (z B:Addr):(Zat z B).lookup ("nodes":Str)=some (.ref z):=by unfold Zat;rw [Xf,if_neg tn,Xf,if_pos rfl]
theorem ZgJ (B z:Addr):(Zat B z).lookup ("tables":Str)=some (.ref z):=by unfold Zat;rw [Xf,if_pos rfl]
theorem Yb (z B:Addr){m:Str}(h1:¬ m="tables")(h2:¬ m="nodes"):(Zat z B).lookup m=none:=by
 unfold Zat
 rw [Xf,if_neg h1,Xf,if_neg h2]
 rfl
structure StoreAt (K:Qa)(C st ln dt:Addr)(H:Hp)(nds:List Nd)(tabs:List (Zn×V)):Prop where
 ob:∃ dx,H st=some (.ins C dx (Zat ln dt))
 nl:∃ as:List Addr,H ln=some (.lst (as.map V.ref))/\as.length=nds.length/\∀ (i:Nat) (a:Addr) (n:Nd),as[i]?=some a->nds[i]?=some n->NodeAt K H a n
 tb:H dt=some (.dK tabs)
theorem StoreAt.keep (S:StoreAt K C st B G H nds z)(h:Same H H'):StoreAt K C st B G H' nds z:=by
 obtain ⟨⟨dx,e⟩,⟨as,J,l,W⟩,I⟩:=S
 exact ⟨⟨dx,h _ _ e⟩,⟨as,h _ _ J,l,fun i a n x y=>(W i a n x y).tf h.tf⟩,h _ _ I⟩
theorem StoreAt.kq (S:StoreAt K C st B G H nds z)(k:Kq L H H')(t:TF H H')(h1:st ∉ L)(h2:B ∉ L)(Y:G ∉ L):StoreAt K C st B G H' nds z:=by
 obtain ⟨⟨dx,e⟩,⟨as,J,l,W⟩,I⟩:=S
 exact ⟨⟨dx,k _ _ h1 e⟩,⟨as,k _ _ h2 J,l,fun i a n x y=>(W i a n x y).tf t⟩,k _ _ Y I⟩
theorem Grown.kq (g:Grown Pl H H'):Kq [Pl] H H':=fun b o n e=>g b o (fun z=>n (by simp [z])) e
theorem LamAt.kq (h:LamAt H Pl lpos q)(k:Kq L H H')(B:∀ b∈L,∃ xs,H b=some (.lst xs)):LamAt H' Pl lpos q:=by
 rcases h with h | ⟨c,h,h2⟩
 ·exact .inl (k _ _ (fun z=>by obtain ⟨_,e⟩:=B _ z;rw [h] at e;cases e) h)
 ·exact .inr ⟨c,k _ _ (fun z=>by obtain ⟨_,e⟩:=B _ z;rw [h] at e;cases e) h,k _ _ (fun z=>by obtain ⟨_,e⟩:=B _ z;rw [h2] at e;cases e) h2⟩
theorem ZbF {G:Type}{xs:List G}{r:Int}(I:0<=r)(h1:r < (xs.length:Int)):∃ v,YR xs r=some v/\v∈xs:=by
 have B:r.toNat < xs.length:=by omega
 have z:YR xs ((r.toNat:Nat):Int)=some xs[r.toNat]:=Zm (getElem?_eq_getElem B)
 have e:((r.toNat:Nat):Int)=r:=by omega
 rw [e] at z
 exact ⟨_,z,Gp B⟩
def Xa:V->Prop
 | .int i=>i.natAbs < 10 ^ 30
 | .str x=>x.length<=40/\x.cps.toList.all sgn=true
 | _=>False
def Zbz:V->Bool
 | .int i=>decide (i.natAbs < 10 ^ 30)
 | .str x=>decide (x.length<=40)&&x.cps.toList.all sgn
 | _=>false
theorem UZ (h:Zbz v=true):Xa v:=by
 cases v with
 | int i=>exact of_decide_eq_true (p:=i.natAbs < 10 ^ 30) h
 | str x =>
  have h':(decide (x.length<=40)&&x.cps.toList.all sgn)=true:=h
  simp only [QI,decide_eq_true_eq] at h'
  exact h'
 | _=>cases h
inductive Zce (vs:List V)(H:Hp)(Q:VK)(w_3:XK):Prop
 | mk (p:Addr) (n:Nat):vs=[.ref p]->BoxAt H p n->n<=900000->(∀ (v:V) (H':Hp),Xa v->BoxAt H' p (n+50)->Kp p H H'->Q v H')->Zce vs H Q w_3
def Zkf:List Stmt->Str
 | .Assign _ (.Constant (.str x) _ _) _::_=>x
 | _::r=>Zkf r
 | []=>Str.empty
theorem Zll {K:Qa}(Z:X.K=K)(Y:X.calm=true){j:Nat}(ha:PG X (.Name xa z) G)(W:PG X (.Name xb I) B):PG X (.Tuple [.Name xa z,.Name xb I] j J) (gTup K 2 (ZfA G (ZfA B gNil))):=by
 subst Z
 exact WO Y (Yp ha (Yp W Wf))
theorem FnOk.ex {P:Qk}{w:Qs}{K:Qa}{mg:Str->Option Qc}{base:Heap}{k:Nat}{f:Addr}{fd:Qm}{ps:List Str}{ok:List Str->Prop}{sp:List Str->Sp}(F:∀ NS,ok NS->FnOk P w K mg base ZI k f fd ps (sp NS)) :
 FnOk P w K mg base ZI k f fd ps (fun vs H Q E=>∃ NS,ok NS/\sp NS vs H Q E) :=
 ⟨fun vs H Q E ⟨NS,N,h⟩=>(F NS N).len vs H Q E h,fun A outer s H args us vs Q E G B I z ⟨NS,N,h⟩=>(F NS N).run A outer s H args us vs Q E G B I z h⟩
def Zfp (P:Qk)(w:Qs)(K:Qa)(mg:Str->Option Qc)(base:Heap)(k:Nat)(C:Addr)(x:Str)(ps:List Str)(sp:Sp):Prop:=∃ f fd,FnOk P w K mg base ZI k f fd ps sp/\Binds K fd ps []/\Mk K C f/\mg x=some (.ref C)
theorem Zkl {k:Nat}(D:Zfp X.prog X.w X.K X.mg X.base k C x ps sp)(G:Room (k+1) X.A)(B:Gl X x:=by rfl)(z:(x == ("__debug__":Str))=false:=by decide):
 PE X (.Call (.Name x p) [] [] pos) (Zkt C sp [] E0 Wa):=by
 obtain ⟨f,fd,F,b,M,m⟩:=D
 exact ZiZ M F G B m b .nil ZcQ z
theorem SqL.obj (h:SqL K H a xs):(∀ H',SqL K H' a xs)\/∃ o,H a=some o/\(∀ tb,o≠.tbl tb)/\∀ H',H' a=some o->SqL K H' a xs:=by
 rcases h with (h | ⟨o,h⟩) | h
 ·exact .inr ⟨_,h,(fun tb z=>by cases z),fun H' e=>.inl (.inl e)⟩
 ·exact .inr ⟨_,h,(fun tb z=>by cases z),fun H' e=>.inl (.inr ⟨o,e⟩)⟩
 ·exact .inl fun H'=>.inr h
theorem Uq (s:Same H H')(h:H' a=none):H a=none:=by
 cases e:H a with
 | none=>rfl
 | some o=>rw [s _ _ e] at h;cases h
end L2
namespace L2
open PySem PySem.Spec PyProof.Rows
theorem Sep.nest {a:Addr}:∀{Γ:Rs}{H h:Hp},Same h H->Sep Γ h->Sep Δ (Um H h)->Sep (Γ++Δ) H
 | [],_,_,_,_,S=>S.mono ZaU
 | (b,T)::Γ,H,h,l,⟨g,m,t,G⟩,S=>by
  refine ⟨g,m.trans l,t,Sep.nest (a:=a) (h:=Um h g) (Zdo l) G (S.mono fun c o e=>?_)⟩
  obtain ⟨e1,z⟩:=cut_some.mp e
  refine cut_some.mpr ⟨cut_some.mpr ⟨e1,fun u q=>z u (m _ _ q)⟩,fun u q=>z u (cut_some.mp q).1⟩
theorem Sep.pack' :∀{Γ:Rs}{H:Hp},Sep (Γ++Δ) H->∃ h,Same h H/\Sep Γ h/\Sep Δ (Um H h)
 | [],H,S=>⟨fun _=>none,fun b o e=>(by cases e),trivial,S.mono fun b o e=>cut_some.mpr ⟨e,fun u q=>(by cases q)⟩⟩
 | (b,T)::Γ,H,⟨g,m,t,S⟩=>by
  obtain ⟨h',I,G,S⟩:=Sep.pack' S
  refine ⟨fun c=>match g c with | some o=>some o | none=>h' c,fun c o e=>?_,⟨g,fun c o e=>?_,t,G.mono fun c o e=>?_⟩,S.mono fun c o e=>?_⟩
  ·cases q:g c with
   | some u=>simp only [q] at e;cases e;exact m _ _ q
   | none=>simp only [q] at e;exact (cut_some.mp (I _ _ e)).1
  ·simp only [e]
  ·obtain ⟨e1,B⟩:=cut_some.mp (I _ _ e)
   refine cut_some.mpr ⟨?_,B⟩
   cases q:g c with
   | some u=>simp only [q];rw [m _ _ q] at e1;exact e1
   | none=>simp only [q];exact e
  ·obtain ⟨e1,B⟩:=cut_some.mp e
   obtain ⟨W,J⟩:=cut_some.mp e1
   refine cut_some.mpr ⟨W,fun u q=>?_⟩
   cases z:g c with
   | some v=>simp only [z] at q;cases q;exact J _ z
   | none=>simp only [z] at q;exact B _ q
theorem Sep.pack {a:Addr}{Γ Δ:Rs}(S:Sep (Γ++Δ) H)(f:∀ h,Sep Γ h->R a h):Sep ((a,R)::Δ) H:=by
 obtain ⟨h,l,G,S⟩:=Sep.pack' S
 exact ⟨h,l,f h G,S⟩
section
variable {X:Cx}
inductive Zhu (x y:V)(H:Hp)(Q:VK):Prop
 | mk (dx dy:_):DataOf H x dx->DataOf H y dy->dx.canLay0=true->dy.canLay0=true->dx.depth<=60->Q (.bl (JV dx dy)) H->Zhu x y H Q
def rEqD :R2:=fun x y H Q=>Zhu x y H Q
theorem ZmG (hu:X.A.units+64 < OV):YW X (Ge .Eq) rEqD:=by
 intro pins s σ H x y v u Q I z ry h
 obtain ⟨dx,dy,Z,J,W,B,hd,q⟩:=h
 obtain ⟨_,as,Y⟩:=DataOf.reads I.hok v Z z
 obtain ⟨_,bs,G⟩:=DataOf.reads I.hok u J ry
 exact RD Y G W B (by omega) ⟨.bl _,H,I,rfl,q⟩
theorem Zip {i:Nat}(h:i<=100000):¬ (!Builtin.List.listFitsIndex (i:Int))=true:=by
 have e:Tz (i:Int)=true:=by
  unfold Tz
  have h1:(-(2 ^ 63:Int))<=(i:Int):=Int.le_trans (by decide) (Int.natCast_nonneg i)
  have h2:(i:Int) < 2 ^ 63:=Int.lt_of_le_of_lt (Int.ofNat_le.mpr h) (by decide)
  rw [decide_eq_true h1,decide_eq_true h2];rfl
 rw [e];decide
theorem Zdy (l:Addr)(z:Array Qc)(n i:Nat)(t:Tok)(y:Qc)(hi:i<=100000)(hsz:z.size<=Qg) :
 ∃ S,Meets (Tg.«list.insert» ⟨[.ref l,.int ((i:Nat):Int) t,y],[]⟩) S/\∀ A R s,s.heap.get? l=some { cls:=.type "list",dict:=none,data:=.seq z n,slots:=#[] } ->
  R (.ok (.ret GP)) { s with heap:=s.heap.update l (QT fun xs=>(xs.extract 0 (min i xs.size)).push y++xs.extract (min i xs.size)),toks:=s.toks }->S A R s:=by
 refine ⟨_,@Rg l z n ((i:Nat):Int) t y (Zip hi) hsz,fun A R s h1 h2=>⟨h1,?_⟩⟩
 have e:(fun xs:Array Qc=>(xs.extract 0 (min i xs.size)).push y++xs.extract (min i xs.size))=(fun xs:Array Qc=>(xs.extract 0 (if ((i:Nat):Int) < 0 then (((i:Nat):Int)+((xs.size:Nat):Int)).toNat else min (((i:Nat):Int)).toNat xs.size)).push y++xs.extract (if ((i:Nat):Int) < 0 then (((i:Nat):Int)+((xs.size:Nat):Int)).toNat else min (((i:Nat):Int)).toNat xs.size)):=by
  funext xs
  rw [if_neg (by omega),GM]
 rw [e] at h2
 exact h2
inductive ZcA (x:V)(vs:List V)(H:Hp)(Q:VK):Prop
 | mk (l xs i y:_):x=.ref l->vs=[.int (i:Nat),y]->H l=some (.lst xs)->xs.length < 100000->i<=100000->Q .non (upd H l (.lst (xs.take i++y::xs.drop i)))->ZcA x vs H Q
def Zlu :V->List V->Hp->VK->Prop:=fun x vs H Q=>ZcA x vs H Q
theorem Zhf:MtM X "list.insert" Zlu:=by
 intro pins s σ H x vs v us Q I Z rv h
 obtain ⟨l,xs,i,y,rfl,rfl,Y,hz,hi,q⟩:=h
 cases Z
 obtain ⟨u1,J,rfl,⟨t,rfl⟩,r2⟩:=VZ rv
 obtain ⟨z,B,n,r,hl,e⟩:=I.lstM Y
 have W:=r.length
 have hsz:B.toArray.size<=sizeLine:=by rw [size_toArray,<- W];exact z
 obtain ⟨S,M,hS⟩:=Zdy l B.toArray n i t J hi hsz
 refine Tu (self:=.ref l) (rest:=[.int ((i:Nat):Int) t,J]) (S:=S) F.slot_list_insert ⟨_,e,rfl⟩ F.entry_list_insert (F.args_list_insert_3 _ _ _) ?M (hS _ _ _ e ?R)
 case M=>assumption
 refine ⟨.non,_,I.lset (its':=B.take i++J::B.drop i) Y e ?_ ((r.take i).append (.cons r2 (r.drop i))) ?_,rfl,q⟩
 ·apply Array.toList_inj.mp
  by_cases G:i<=B.length
  ·have e1:min i B.length=i:=PV G
   simp [e1,take_of_length_le]
  ·have e1:min i B.length=B.length:=SK (by omega)
   simp [e1,take_of_length_le (show B.length<=i by omega),Jk (show B.length<=i by omega)]
 ·rw [length_append,length_take,length_cons,length_drop]
  exact Qo (show _<=100001 by omega) (by decide)
end
section
variable {X:Cx}{k:Nat}{C:Addr}{x m:Str}{ps:List Str}{sp:Sp}{p pos apos:Pos}{o:Expr}{ta:TE}
theorem ZfN (D:DefM X.prog X.w X.K X.mg X.base k C m ps sp)(c:Cls X.K C)(G:Room k X.A)(B:PE X o ta)(I:eval (.Call (.Attribute o m apos) [] [] pos) X.env=(do
  let z <- eval o X.env
  TW apos.atName
  let (f,first) <- JL [z] (Sy z m pl)
  RJ pos f first (GZ pos (QA [] X.env)) (PJ pos (Jg [] X.env))):=by rfl):
 PE X (.Call (.Attribute o m apos) [] [] pos) (ZcX C m sp [] E0 ta Wa):=by
 obtain ⟨f,fd,F,b,q⟩:=D
 exact Zja B c q F G b .nil ZcQ I
end
def Zfq (K:Qa)(a:Addr):It :=
 ⟨fun i H=>∃ xs x,SqL K H a xs/\xs[i]?=some x,fun i H v H'=>∃ t x,H t=none/\(∀ xs,SqL K H a xs->xs[i]?=some x)/\v=.ref t/\H'=upd H t (.tup [.int (i:Int),x]),fun i H=>∃ xs,SqL K H a xs/\xs.length<=i⟩
theorem Zgs {P:Qk}{w:Qs}{K:Qa}{elts:List Expr}{x1:Nat}{tp:Pos}(a e G:Addr)(Y:e≠G)(hai:a≠G)(hae:a≠e) :
 UR P w K (.Tuple elts x1 tp) (Zfq K a) [e,G] e (fun i h=>(∃ B,IsEnum h e G (i:Int) B)/\h.IsListIter G a i) where
 mem:=by simp
 obj:=fun i h st b hb=>by
  obtain ⟨⟨B,J⟩,⟨o,ho,c,d⟩⟩:=st
  rcases mem_cons.mp hb with q | hb
  ·rw [q];exact ⟨_,J,fun v z=>by cases z⟩
  ·rw [mem_singleton.mp hb];exact ⟨o,ho,fun v z=>by rw [d] at z;cases z⟩
 keep:=fun i h h' st k=>by
  obtain ⟨⟨B,J⟩,st⟩:=st
  exact ⟨⟨B,k e (by simp) _ J⟩,st.at fun o y=>k G (by simp) o y⟩
 item:=by
  intro X hP hw hK hc i pins s σ H E I hf st hg
  subst hP hw hK
  obtain ⟨⟨B,J⟩,hs⟩:=st
  obtain ⟨xs,x,hq,hx⟩:=hg
  obtain ⟨W,rv,p,hz⟩:=I.list hq
  obtain ⟨u,hu,ru⟩:=rv.get hx
  have hlt:i < W.toArray.size:=by
   have:=(Qj.mp hu).1
   simpa using this
  have D:=Draws.list (prog:=X.prog) (w:=X.w) (A:=X.A.in1) (I.ok.hd hc) G a hai W.toArray
  refine SG (i:=i) D J ⟨hs,p.isList⟩ hlt Y (by simp [Y,JK hae]) fun v h' tk hP hOut hst hT hsz hk=>?_
  have ev:v=u:=by
   have:W[i]?=some v:=by simpa using hP
   rw [hu] at this;exact (Qu this).symm
  subst ev
  have hel:e < s.heap.objs.size:=Qi J
  have hil:G < s.heap.objs.size:=by obtain ⟨o,ho,_⟩:=hs;exact Qi ho
  refine ⟨_,rfl,Tw hOut fun h2 he2 hs2=>?_⟩
  generalize hO:({ cls:=.type "tuple",data:=.seq #[.int ((i:Nat):Int) tk,v] }:Obj)=O at hT
  have I1:Inv X pins σ (upd H s.heap.objs.size (.tup [.int (i:Int),x])) { s with heap:=s.heap.push O,toks:=tk+1 }:=by
   refine I.laid (t':=tk+1) (fun b o y=>Qd _ y) (Qf _) (show ObjOk X.prog X.w _ _ _ (.tup _) from ⟨by show 2<=Qg;decide,[.int ((i:Nat):Int) tk,v],.cons ⟨tk,rfl⟩ (.cons ru .nil),?_⟩)
   rw [<- hO];exact Pp _ _
  have Z:=I.hok.fresh (Qf s.heap.objs.size)
  have hf2:∀ b∈[e,G],Xz X pins (upd H s.heap.objs.size (.tup [.int (i:Int),x])) b:=fun b hb=>by
   obtain ⟨f0,f1⟩:=hf b hb
   have hb':b≠s.heap.objs.size:=by
    rcases mem_cons.mp hb with q | hb
    ·rw [q];exact Qt hel
    ·rw [mem_singleton.mp hb];exact Qt hil
   exact ⟨by rw [Zj hb'];exact f0,f1⟩
  have I2:Inv X pins σ (upd H s.heap.objs.size (.tup [.int (i:Int),x])) { s with heap:=h2,toks:=tk+1 }:=by
   refine I1.turned2 (t':=tk+1) (h':=h2) (fun b o hb y=>?_) hf2
   have hbe:b≠e:=fun q=>hb (by simp [q])
   have hbi:b≠G:=fun q=>hb (by simp [q])
   rw [hs2.2 b hbe]
   rcases JE y with ⟨q1,q2⟩ | y
   ·rw [q1,q2];exact hT
   ·exact hk b o hbe hbi y
  refine ⟨.ref s.heap.objs.size,_,I2,rfl,⟨s.heap.objs.size,x,Z,fun ys hy=>by rw [I.list_inj hy hq];exact hx,rfl,rfl⟩,⟨⟨_,he2⟩,?_⟩,fun b hb=>(hf2 b hb).1⟩
  exact hst.1.at fun o y=>by rw [hs2.2 G Y.symm];exact y
 done:=by
  intro X hP hw hK hc i pins s σ H E I hf st hg
  subst hP hw hK
  obtain ⟨⟨B,J⟩,hs⟩:=st
  obtain ⟨xs,hq,hle⟩:=hg
  obtain ⟨W,rv,p,hz⟩:=I.list hq
  have hl:=rv.length
  obtain ⟨f0,f1,f2,f3,f4,f5⟩:=hf G (by simp)
  exact wpAny_pyNext_enum_end (I.ok.hd hc) J hs p.isList (by simp;omega) fun h' eb=>⟨rfl,I.turned (t':=s.toks) (fun b o hb y=>eb b o hb y) f0 f1 f3 f4 f5⟩
 self:=fun _ _ _ _ _ st h=>by
  obtain ⟨⟨B,J⟩,_⟩:=st
  exact Pg J h
def Zmj (K:Qa)(tl:TE):TI:=fun σ H R=>tl σ H fun v H1=>∃ a xs,[v]=[V.ref a]/\H1 a=some (.lst xs)/\R (Zfq K a) H1
section
variable {X:Cx}
theorem Zjc {x1:Nat}(hg:Gl X "enumerate")(hm:X.mg "enumerate"=none)(hl:PE X l tl)(he:QA [l] X.env=[(false,eval l X.env)]:=by rfl):PI X (.Tuple J x1 tp) (.Call (.Name "enumerate" p) [l] [] pos) (Zmj X.K tl):=by
 intro pins s σ H R I h
 have ha:PA X [l] (Xh tl Wa):=Yq hl Za he
 refine Gb (Wp I hg hm boot_enumerate ?_)
 refine Gh (Zw (ha pos pins s σ H (fun vs H1=>∃ a xs,vs=[V.ref a]/\H1 a=some (.lst xs)/\R (Zfq X.K a) H1) I h) fun us s1 zz=>?_) he rfl
 obtain ⟨vs,H1,B,r1,a,xs,e,ea,q⟩:=zz
 subst e
 obtain ⟨u,rfl,r⟩:=YQ r1
 cases r
 obtain ⟨z,its,n,rv,hll,eo⟩:=B.lstM ea
 have G:a < s1.heap.objs.size:=Qi eo
 refine call_enumerate_1 eo fun h' Z W hsz Y=>Pg Z ?_
 refine ⟨s1.heap.objs.size+1,[s1.heap.objs.size+1,s1.heap.objs.size],_,_,H1,rfl,B.kept (t':=s1.toks) Y,Zgs a _ _ (NE _) (Qt G) (Qt (Jy G)),⟨⟨_,Z⟩,W⟩,fun b hb=>?_,q⟩
 rcases mem_cons.mp hb with z | hb
 ·rw [z];exact B.fpOk (JD _) (B.hok.fresh (JD _))
 ·rw [mem_singleton.mp hb];exact B.fpOk (Qf _) (B.hok.fresh (Qf _))
end
inductive Zfi (i j k:Nat)(D:YA)(σ:St)(vs:List V)(H1:Hp):Prop
 | mk (u v w:_):vs=[u,v,w]->D.nx (((σ.set i (some u)).set j (some v)).set k (some w)) H1->Zfi i j k D σ vs H1
def Zoc (i j k:Nat)(ta:TA):TS:=fun D σ H=>ta σ H fun vs H1=>Zfi i j k D σ vs H1
theorem Zlp {i j k:Nat}{kt k2 pt2}(hc:X.calm=true)(hN:X.N.Nodup)(hi:X.N[i]?=some x)(hj:X.N[j]?=some y)(hk:X.N[k]?=some z)(hij:i≠j)(hik:i≠k)(hjk:j≠k)(hx:X.env.scope.names.lookup x=some .local)(hy:X.env.scope.names.lookup y=some .local)(hz:X.env.scope.names.lookup z=some .local)(ha:PA X [a,b,c] ta)(hw:Of [.Tuple [.Name x px,.Name y py,.Name z pz] kt pt] (.Tuple [a,b,c] k2 pt2) X.env=pure (some [x,y,z]))(hs:Oe [.Tuple [.Name x px,.Name y py,.Name z pz] kt pt] (.Tuple [a,b,c] k2 pt2) pos.line X.env=pure false:=by rfl):
 PS X (.Assign [.Tuple [.Name x px,.Name y py,.Name z pz] kt pt] (.Tuple [a,b,c] k2 pt2) pos) (Zoc i j k ta):=by
 intro pins s σ H D I h
 rw [NP]
 refine Qb (GT ?_)
 rw [hs]
 refine Qb (Qh ?_)
 rw [if_neg (by decide)]
 refine Qb (Tuple_ (Zw (ha _ pins s σ H _ I h) fun us s1 zz=>?_))
 obtain ⟨vs,H1,I1,r1,Y⟩:=zz
 obtain ⟨v1,v2,v3,e1,Y⟩:=Y
 subst e1
 obtain ⟨G,B,J,rfl,Z,W,rv3⟩:∃ G B J,us=[G,B,J]/\RelV v1 G/\RelV v2 B/\RelV v3 J:=by
  cases r1 with
  | cons p q =>
   cases q with
   | cons p' q' =>
    cases q' with
    | cons p'' q'' =>
     cases q''
     exact ⟨_,_,_,rfl,p,p',p''⟩
 refine Gd ?_ (by show 3<=Qg;decide)
 have I2:Inv X pins σ H1 { s1 with heap:=s1.heap.push { cls:=.type "tuple",data:=.seq [G,B,J].toArray } }:=I1.kept (t':=s1.toks) fun b o e=>Qd _ e
 rw [hw]
 refine Qb (Qh ?_)
 show Qq (Qw X.prog X.w) X.A (do rule "assign.swapped-stores";let items <- unpackItems (.ref s1.heap.objs.size) 3 none;Px [fun v=>JX X.env z v,fun v=>JX X.env y v,fun v=>JX X.env x v] items.reverse;pure Nt) _ _ _
 refine Qb (Jh (Qb (OP (items:=#[G,B,J]) (I.ok.hd hc) (Pp s1.heap _) fun h' hx'=>?_)))
 have I3:=I2.kept (h':=h') (t':=s1.toks) fun b o e=>hx' b o (Qt (Qi e)) e
 show Qq _ _ (Px [fun v=>JX X.env z v,fun v=>JX X.env y v,fun v=>JX X.env x v] [J,B,G] >>= fun _=>pure Nt) _ _ _
 refine Qb (GF (JY (XG I3 hN hk (.inl hz) rv3 (fun s2 I4=>?_) (.inr hz))))
 refine GF (JY (XG I4 hN hj (.inl hy) W (fun s3 I5=>?_) (.inr hy)))
 refine GF (JY (XG I5 hN hi (.inl hx) Z (fun s4 I6=>TX (Qh ?_)) (.inr hx)))
 rw [Sl _ _ (JK hjk),Sl _ _ (JK hik),Sl _ _ (JK hij)] at I6
 exact ⟨_,H1,I6,Y⟩
theorem ZcL {K:Qa}(z:X.K=K):YW X (Ge .NotIn) (rIn K true):=by subst z;exact ZdK
theorem ZjI {K:Qa}(z:X.K=K):SlR X (ZfZ K):=by subst z;exact YB
theorem Zdv {z G:Type}{f g:z->Option G}:∀{l:List z},(∀ x∈l,f x=g x)->l.filterMap f=l.filterMap g
 | [],_=>rfl
 | x::l,h=>by
  rw [filterMap_cons,filterMap_cons,h x mem_cons_self,Zdv fun y B=>h y (mem_cons_of_mem _ B)]
theorem Zjf (z:List Qc):NB z.toArray none none (some (-1))=z.reverse.toArray:=by
 have J:Gm none none (some (-1)) z.toArray.size=((z.length:Int) - 1,-1,-1):=by
  unfold Gm
  simp
 unfold NB
 rw [J]
 have W:OA ((z.length:Int) - 1) (-1) (-1)=(Gw z.length).map fun k=>z.length - 1 - k:=by
  unfold OA
  have e1:(if (-1:Int) > 0 then (if (z.length:Int) - 1 < -1 then (-1 - ((z.length:Int) - 1)+-1 - 1) / -1 else 0) else (if (z.length:Int) - 1 > -1 then ((z.length:Int) - 1 - -1 - -1 - 1) / (- -1) else 0)).toNat=z.length:=by
   rw [if_neg (by decide)]
   split
   ·rw [show (- -1:Int)=1 by decide,SZ];omega
   ·omega
  dsimp only
  rw [e1]
  apply JO
  intro k G
  have:=mem_range.mp G
  omega
 dsimp only
 rw [W,Tr]
 congr 1
 have B:∀ (l:List Qc),(Gw l.length).filterMap ((fun i=>l[i]?) ∘ fun k=>l.length - 1 - k)=l.reverse:=by
  intro l
  have h1:(Gw l.length).filterMap ((fun i=>l[i]?) ∘ fun k=>l.length - 1 - k)=(Gw l.reverse.length).filterMap (fun k=>l.reverse[k]?):=by
   rw [length_reverse]
   refine Zdv fun k G=>?_
   have I:=mem_range.mp G
   show l[l.length - 1 - k]?=l.reverse[k]?
   rw [List.getElem?_reverse I]
  rw [h1]
  have Y:∀ (m:List Qc) (n:Nat),(Gw n).filterMap (fun k=>m[k]?)=m.take n:=by
   intro m n
   induction n with
   | zero=>simp
   | succ n ih =>
    rw [NW,RB,ih,take_add_one]
    cases e:m[n]?<;>simp [e]
  rw [Y,take_of_length_le (Qf _)]
 have:=B z
 simpa using this
inductive Zfk (K:Qa)(Q:VK)(x:V)(H1:Hp):Prop
 | mk (a xs:_):x=.ref a->SqL K H1 a xs->(∀ p,H1 p=none->Q (.ref p) (upd H1 p (.lst xs.reverse)))->Zfk K Q x H1
def Zod (K:Qa)(te:TE):TE:=fun σ H Q=>te σ H fun x H1=>Zfk K Q x H1
section
variable {X:Cx}
theorem ZeW {k:Nat}(he:PE X e te):PE X (.Subscript e (.Slice none none (some (.UnaryOp .USub (.Constant (.int 1) k pc) pu)) p2) pos) (Zod X.K te):=by
 intro pins s σ H Q I h
 refine Ow (Zw (he pins s σ H _ I h) fun v s1 B=>?_)
 obtain ⟨x,H1,I1,r1,a,xs,ex,hx,q1⟩:=B
 subst ex
 cases r1
 refine NL (Zw (Yi pins s1 σ H1 (fun o H2=>o=none/\H2=H1) I1 ⟨rfl,rfl⟩) fun vl s2 B=>?_)
 obtain ⟨l,H2,I2,pl,el,eh⟩:=B
 refine Zw (Yi pins s2 σ H2 (fun o J=>o=none/\J=H2) I2 ⟨rfl,rfl⟩) fun vu s3 B=>?_
 obtain ⟨u,J,I3,pu',eu,W⟩:=B
 subst el eh eu W
 refine Zw (ZR (X:=X) (WV Ww Zc) pins s3 σ J (fun o Y=>o=some (-1)/\Y=J) I3 ⟨_,rfl,_,rfl,rfl,rfl⟩) fun G z B=>?_
 obtain ⟨o,Y,I4,ps,eo,eh4⟩:=B
 subst eo eh4
 have I5:Inv X pins σ Y { z with heap:=z.heap.push { cls:=.type "slice",data:=.fields #[vl,vu,G] } }:=I4.kept (t':=z.toks) fun b ob q=>Qd _ q
 obtain ⟨Z,r,ht,hz⟩:=I5.list hx
 have hlen:=r.length
 show Qq (Qw X.prog X.w) X.A (Oh e (.Slice none none (some (.UnaryOp .USub (.Constant (.int 1) k pc) pu)) p2) (.ref a) (.ref z.heap.objs.size)) (EP X pins σ Q) X.xe { z with heap:=z.heap.push { cls:=.type "slice",data:=.fields #[vl,vu,G] } }
 refine tail_any (ops:=[.ref a,.ref z.heap.objs.size]) ht.isList.typeIs Sc.lookup ?_ (by with_unfolding_all rfl)
 refine So ht.isList (Tt ..) pl pu' ps (by decide) ?_ (by rw [size_toArray];omega)
 rw [Zjf]
 refine ⟨.ref _,_,I5.laid (t':=z.toks) (o:=.lst xs.reverse) (fun b ob q=>Qd _ q) (Qf _) ?_,rfl,q1 _ (I5.hok.fresh (Qf _))⟩
 exact ⟨by rw [length_reverse];exact hz,Z.reverse,0,r.reverse,Ql _ rfl⟩
end
end L2
namespace L2
open PySem
theorem Sep.newE (S:Sep Δ H)(hp:H p=none)(e:upd H p o=H2):Sep ((p,Pt o)::Δ) H2:=e ▸ S.new hp o
theorem Sep.putE (S:Sep Δ H)(e:upd H a o'=H2)[P:Pull a Δ (Pt o) z](m:Yn o=true:=by rfl):Sep ((a,Pt o')::z) H2:=e ▸ S.put a o' m
theorem WF {lo:Int}{n:Nat}(hn:n<=Qg)(S:Sep Δ H)(Z:H D=none)(J:Nat->List V->Rs->Prop)(Y:J 0 [] Δ)(hs:∀ i ys Δ H,i < n->ys.length=i->J i ys Δ->Sep ((D,ZO ys)::Δ) H->te (σ++[some (.int (lo+i))]) H fun y G=>∃ z,J (i+1) (ys++[y]) z/\Sep ((D,ZO ys)::z) G)(hd:∀ ys Δ H,J n ys Δ->ys.length=n->Sep ((D,ZO ys)::Δ) H->Q (.ref D) H):CompW (Itr lo n) te σ D Q H:=by
 refine ⟨fun i m ys H=>m=n - i/\i<=n/\ys.length=i/\∃ Δ,J i ys Δ/\Sep ((D,ZO ys)::Δ) H,⟨n,by simp,Qx _,rfl,Δ,Y,S.new Z _⟩,?_⟩
 rintro i m ys H2 ⟨rfl,hi,W,Δ,j,S⟩
 by_cases B:i < n
 ·refine .inr ⟨B,_,fun y G (q:∃ z,J (i+1) (ys++[y]) z/\Sep ((D,ZO ys)::z) G)=>?_,fun v H3 y=>?_⟩
  ·obtain ⟨z,j',I⟩:=q
   exact ⟨I.get D,by omega,n - (i+1),by omega,rfl,B,by simp [W],z,j',I.put D _⟩
  ·obtain ⟨e1,e2⟩:=y
   subst e1 e2
   exact hs i ys Δ _ B W j S
 ·have e:i=n:=by omega
  exact .inl ⟨by show n<=i;omega,hd ys Δ H2 (e ▸ j) (by omega) S⟩
theorem Zdn {K:Qa}(hn:xs.length<=Qg)(S:Sep Δ H)(hD:H D=none)(J:Nat->List V->Rs->Prop)(h0:J 0 [] Δ)(ha:∀ i ys Δ H,J i ys Δ->Sep ((D,ZO ys)::Δ) H->SqL K H a xs)(hs:∀ i x t ys Δ H W Y,xs[i]?=some x->ys.length<=i->J i ys Δ->Sep ((t,Wm [.int (i:Int),x])::(D,ZO ys)::Δ) H->g (.ref t) (σ++[W,Y]) H fun G H'=>(∃ W Y,G=σ++[W,Y])/\tc G H' fun b H3=>if b=true then te G H3 fun y I=>∃ z,J (i+1) (ys++[y]) z/\Sep ((D,ZO ys)::z) I else ∃ z,J (i+1) ys z/\Sep ((D,ZO ys)::z) H3)(hd:∀ ys Δ H,J xs.length ys Δ->ys.length<=xs.length->Sep ((D,ZO ys)::Δ) H->Q (.ref D) H):CompVT (Zfq K a) g tc te σ D Q H:=by
 refine ⟨fun i m ys H=>m=xs.length - i/\i<=xs.length/\ys.length<=i/\∃ Δ,J i ys Δ/\Sep ((D,ZO ys)::Δ) H,⟨xs.length,by simp,Qx _,Qf _,Δ,h0,S.new hD _⟩,?_⟩
 rintro i m ys H2 ⟨rfl,hi,hl,Δ,j,S⟩
 have q:=ha i ys Δ H2 j S
 by_cases B:i < xs.length
 ·refine .inr ⟨⟨xs,xs[i],q,by simp [B]⟩,_,_,fun y I (q:∃ z,J (i+1) (ys++[y]) z/\Sep ((D,ZO ys)::z) I)=>?_,fun I (q:∃ z,J (i+1) ys z/\Sep ((D,ZO ys)::z) I)=>?_,fun W Y v H3 y=>?_⟩
  ·obtain ⟨z,j',Z⟩:=q
   exact ⟨Z.get D,by omega,xs.length - (i+1),by omega,rfl,B,by simp;omega,z,j',Z.put D _⟩
  ·obtain ⟨z,j',Z⟩:=q
   exact ⟨xs.length - (i+1),by omega,rfl,B,by omega,z,j',Z⟩
  ·obtain ⟨t,x,e1,e2,e3,e4⟩:=y
   subst e3 e4
   exact hs i x t ys Δ _ W Y (e2 xs q) hl j (S.new e1 _)
 ·have e:i=xs.length:=by omega
  exact .inl ⟨⟨xs,q,by omega⟩,hd ys Δ H2 (e ▸ j) (by omega) S⟩
end L2
namespace L2
open PySem PySem.W PySem.Spec PyProof.Rows
section
variable {prog:Qk}{w:Qs}{A:QD}{E:Qc->Qe->Prop}{s:Qe}{a:Addr}{as:List Addr}{ks:List Str}{P:PySem.Fin->Qe->Prop}
end
section
variable {X:Cx}
def kP (p:Str×V):Zn×V:=(QH p.1,p.2)
end
end L2
namespace L2
open PySem
def Xw (x:Str):Prop:=1<=x.length/\x.length<=8/\x.cps.toList.all Ve=true
theorem YU (c:Nat):(⟨#[c]⟩:Str).length=1:=rfl
theorem ZdJ :∀{l:List Str},(∀ z∈l,∃ c,z=⟨#[c]⟩/\P c=true)->(l.map (·.length)).sum=l.length/\(l.flatMap (·.cps.toList)).length=l.length/\(l.flatMap (·.cps.toList)).all P=true
 | [],_=>⟨rfl,rfl,rfl⟩
 | z :: r,h=>by
  obtain ⟨c,rfl,G⟩:=h z mem_cons_self
  obtain ⟨I,W,Y⟩:=ZdJ (l:=r) fun y B=>h y (mem_cons_of_mem _ B)
  refine ⟨?_,?_,?_⟩
  ·rw [map_cons,Ol,I,length_cons];show 1+_=_;omega
  ·have J:((⟨#[c]⟩:Str)::r).flatMap (·.cps.toList)=c::r.flatMap (·.cps.toList):=rfl
   rw [J,length_cons,length_cons,W]
  ·rw [Sd,Rw,Y];simp [G]
theorem ZgT (h:∀ z∈zs,∃ c,z=⟨#[c]⟩/\P c=true):(zs.map (·.length)).sum+zs.length * (Qn "").length<=2 * zs.length/\(Txt.join (Qn "") zs).length=zs.length/\(Txt.join (Qn "") zs).cps.toList.all P=true:=by
 obtain ⟨I,B,G⟩:=ZdJ h
 refine ⟨?_,?_,?_⟩
 ·rw [I];show _+_ * 0<=_;omega
 ·rw [Ye,WU,B]
 ·rw [WU];exact G
theorem Uc {P:Nat->Bool}{x y:Str}(h1:x.cps.toList.all P=true)(h2:y.cps.toList.all P=true):(x++y).cps.toList.all P=true:=by
 rw [Vw,Rw,h1,h2];rfl
theorem Vg {c:Nat}(h:P c=true):(⟨#[c]⟩:Str).cps.toList.all P=true:=by
 show [c].all P=true;simp [h]
theorem Vn (h:x.cps.toList.all P=true):(Txt.slice x lo hi).cps.toList.all P=true:=by
 rw [WH]
 rw [all_eq_true] at h ⊢
 exact fun c z=>h c (mem_of_mem_drop (mem_of_mem_take z))
theorem ZhH {x:Str}{k:Int}(I:0<=k)(h1:k<=x.length):(Txt.slice x none (some k)).length+(Txt.slice x (some k) none).length=x.length:=by
 have B:¬ k < 0:=by omega
 rw [Ye,Ye,WH,WH,Ye]
 rw [Ye] at h1
 have e1:HT.sIx x.cps.toList.length 0 none=0:=rfl
 have G:HT.sIx x.cps.toList.length x.cps.toList.length none=x.cps.toList.length:=rfl
 have z:∀ d,HT.sIx x.cps.toList.length d (some k)=k.toNat:=fun d=>by
  unfold HT.sIx
  simp only [B,if_false]
  omega
 rw [e1,G,z,z,length_take,length_take,length_drop,length_drop]
 omega
theorem WC {x:Str}{P:Nat->Bool}(B:x.cps.toList.all P=true){r:Int}(G:0<=r)(h1:r < x.length):∃ c,YR x.cps.toList r=some c/\P c=true:=by
 have z:r.toNat < x.cps.toList.length:=by rw [<- Ye];omega
 exact ⟨_,ZaP G (getElem?_eq_getElem z),all_eq_true.mp B _ (Gp z)⟩
def a26:Str:="abcdefghijklmnopqrstuvwxyz"
theorem Xi:a26.length=26:=by decide +kernel
theorem UA:a26.cps.toList.all Ve=true:=by decide +kernel
theorem Zbh {z:Type}{f:z->V}{xs:List z}{r:Int}(G:0<=r)(h1:r < (xs.length:Int)):∃ x∈xs,YR (xs.map f) r=some (f x):=by
 have B:r.toNat < xs.length:=by omega
 exact ⟨_,Gp B,ZaP G (by rw [getElem?_map,getElem?_eq_getElem B];rfl)⟩
theorem ZeM {xs:List V}{r:Int}(B:0<=r)(h1:r < (xs.length:Int)):∃ x∈xs,YR xs r=some x:=by
 have z:r.toNat < xs.length:=by omega
 exact ⟨_,Gp z,ZaP B (getElem?_eq_getElem z)⟩
theorem Sep.le {n m:Nat}(S:Sep ((p,Bx n)::Δ) H)(h:n<=m):Sep ((p,Bx m)::Δ) H:=by
 obtain ⟨g,l,r,S⟩:=S
 exact ⟨g,l,BoxAt.le r h,S⟩
inductive Vp (vs:List V)(H:Hp)(Q:VK)(w_3:XK):Prop
 | mk (p:Addr) (n:Nat) (Δ:Rs):vs=[.ref p]->Sep ((p,Bx n)::Δ) H->n<=900000->(∀ (v:V) (H':Hp),Xa v->Sep ((p,Bx (n+50))::Δ) H'->Q v H')->Vp vs H Q w_3
theorem ZlG (h:Vp vs H Q E):Zce vs H Q E:=by
 obtain ⟨p,n,Δ,e,S,h1,q⟩:=h
 exact ⟨p,n,e,S.get p,h1,fun v H' z B k=>q v H' z (S.box k B)⟩
inductive Zbt (K:Qa)(vs:List V)(H:Hp)(Q:VK)(w_3:XK):Prop
 | mk (a:Addr) (ns:List Int) (k:Int) (Δ:Rs):vs=[.ref a,.int k]->SqL K H a (ns.map V.int)->Sep Δ H->0<=k->k<=1000->(∀ (p:Addr) (H':Hp),Same H H'->Sep ((p,Bx 0)::Δ) H'->Q (.ref p) H')->Zbt K vs H Q w_3
theorem Znq (h:Zbt K vs H Q E):Zgf K vs H Q E:=by
 obtain ⟨a,I,k,Δ,e,J,S,h1,h2,q⟩:=h
 refine ⟨a,I,k,e,J,h1,h2,fun p H' hp B s=>q p H' s ?_⟩
 obtain ⟨x,y,z,G,w⟩:=B
 exact (S.made s hp G).say p (Bx 0) fun h r=>⟨x,y,z,r,w⟩
theorem Zas {xs:List V}{i:Nat}:XA xs none (some (i:Int))=xs.take i:=by
 unfold XA
 rw [HT.sIx_none,HT.sIx_nat,List.drop_zero,Nat.sub_zero]
 by_cases h:i<=xs.length
 ·rw [PV h]
 ·rw [SK (by omega),take_of_length_le (Qf _),take_of_length_le (by omega)]
theorem ZkI {x:Str}{ys:List Str}:inV (.str x) (ys.map V.str)=decide (x∈ys):=by
 unfold inV
 induction ys with
 | nil=>rfl
 | cons y ys ih =>
  rw [map_cons,any_cons,ih]
  show ((y == x) || decide (x∈ys))=decide (x∈y::ys)
  by_cases h:y=x
  ·subst h;simp
  ·rw [show (y == x)=false from beq_eq_false_iff_ne.mpr h,Bool.false_or]
   congr 1
   simp [mem_cons,JK h]
theorem ZhN (ys:List Str):(ys.map V.str).all WT=true:=by
 rw [all_eq_true]
 intro v z
 obtain ⟨y,_,rfl⟩:=mem_map.mp z
 rfl
theorem Zfz:(Gw 26).all (fun k=>decide (Txt.find a26 ⟨#[97+k]⟩=(k:Int)))=true:=by decide +kernel
theorem ZgI {c:Nat}(h:Ve c=true):Txt.find a26 ⟨#[c]⟩=(c:Int) - 97/\97<=c/\c<=122:=by
 unfold Ve at h
 simp only [QI,decide_eq_true_eq] at h
 have z:=of_decide_eq_true (all_eq_true.mp Zfz (c - 97) (mem_range.mpr (by omega)))
 rw [show 97+(c - 97)=c by omega] at z
 exact ⟨by rw [z];omega,h⟩
theorem ZjH {x:Str}(z:x.cps.toList.all P=true){r:Int}(G:-(x.length:Int)<=r)(h1:r < x.length):∃ c,YR x.cps.toList r=some c/\P c=true:=by
 by_cases h:0<=r
 ·exact WC z h h1
 ·have B:(r+x.cps.toList.length).toNat < x.cps.toList.length:=by rw [<- Ye];omega
  refine ⟨x.cps.toList[(r+x.cps.toList.length).toNat],?_,all_eq_true.mp z _ (Gp B)⟩
  unfold YR Wo
  rw [if_neg h,if_pos (by rw [<- Ye];omega)]
  exact getElem?_eq_getElem B
theorem ZjC (b:Bool)(z:Str):0<=(if b=true then (1:Int) else 0)/\(if b=true then (1:Int) else 0)<=1/\(QE (if b=true then (1:Int) else 0).toNat [V.str z]).flatten=(if b=true then [z] else []).map V.str:=by
 cases b
 ·exact ⟨by decide,by decide,rfl⟩
 ·exact ⟨by decide,by decide,rfl⟩
def YF (xs:List Str):Nat->List Str
 | 0=>[]
 | i+1=>match xs[i]? with
  | some x=>if x∈xs.take i then YF xs i else YF xs i++[x]
  | none=>YF xs i
theorem Xq {xs:List Str}:∀ i {x},x∈YF xs i↔x∈xs.take i
 | 0,x=>by simp [YF]
 | i + 1,x=>by
  unfold YF
  rw [take_add_one]
  cases e:xs[i]? with
  | none=>simp [Xq i]
  | some y =>
   dsimp only
   by_cases h:y∈xs.take i
   ·rw [if_pos h,Xq i]
    simp only [OE,mem_append,mem_singleton]
    exact ⟨.inl,fun z=>z.elim id fun z=>z ▸ h⟩
   ·rw [if_neg h]
    simp only [OE,mem_append,mem_singleton,Xq i]
theorem Uo :∀ i,(YF xs i).Nodup
 | 0=>TD
 | i + 1=>by
  unfold YF
  cases e:xs[i]? with
  | none=>exact Uo i
  | some y =>
   dsimp only
   by_cases h:y∈xs.take i
   ·rw [if_pos h];exact Uo i
   ·rw [if_neg h]
    refine List.nodup_append.mpr ⟨Uo i,by simp,fun a z b B=>?_⟩
    rw [mem_singleton.mp B]
    rintro rfl
    exact h ((Xq i).mp z)
theorem Zeu {z:Type}{xs:List z}{n:Nat}{x:z}(h:x∈xs.take n):x∈xs:=mem_of_mem_take h
inductive ZaF (vs:List V)(H:Hp)(Q:VK)(w_3:XK):Prop
 | mk (p:Addr) (n:Nat) (Δ:Rs):vs=[.ref p]->Sep ((p,Bx n)::Δ) H->n<=800000->(∀ (l:Addr) (H':Hp) (us:List V),Sep ((l,ZO us)::(p,Bx (n+200))::Δ) H'->us.length=5->(∀ u∈us,Xa u)->Q (.ref l) H')->ZaF vs H Q w_3
inductive Stp where
 | set (x:Str) (v:V)
 | clr (x:Str)
def Stp.vs:Stp->List V
 | .set x v=>[.str "set",.str x,v]
 | .clr x=>[.str "clear",.str x]
def Stp.nm:Stp->Str
 | .set x _=>x
 | .clr x=>x
def Stp.ok (NS:List Str):Stp->Prop
 | .set x v=>x∈NS/\Xa v
 | .clr x=>x∈NS
inductive Zee (vs:List V)(H:Hp)(Q:VK)(w_3:XK):Prop
 | mk (p nl vl:Addr) (n:Nat) (NS:List Str) (us:List V) (Δ:Rs):vs=[.ref p,.ref nl,.ref vl]->Sep ((p,Bx n)::(nl,ZO (NS.map V.str))::(vl,ZO us)::Δ) H->NS≠[]->us≠[]->NS.length<=1000->us.length<=1000->(∀ u∈us,Xa u)->n<=900000->(∀ (t:Addr) (H':Hp) (s:Stp),s.ok NS->Sep ((t,Wm s.vs)::(p,Bx (n+3))::(nl,ZO (NS.map V.str))::(vl,ZO us)::Δ) H'->Q (.ref t) H')->Zee vs H Q w_3
class IsLst (R:Yv) (k:Nat):Prop where
 lst:∀ {a h},R a h->∃ xs,h a=some (.lst xs)/\xs.length=k
theorem Sep.isl {k:Nat}(S:Sep Δ H)(a:Addr)(I:IsLst R k)[P:Pull a Δ R B]:∃ xs,H a=some (.lst xs)/\xs.length=k:=by
 obtain ⟨h,l,r,_⟩:=P.out S
 obtain ⟨xs,e,z⟩:=I.lst r
 exact ⟨xs,l _ _ e,z⟩
inductive ZdZ (vs:List V)(H:Hp)(Q:VK)(w_3:XK):Prop
 | mk (p sl:Addr) (n k:Nat) (R:Yv) (Δ:Rs):vs=[.ref p,.ref sl]->Sep ((p,Bx n)::(sl,R)::Δ) H->IsLst R k->1<=k->k<=10000->n<=900000->(∀ (r:Nat) (H':Hp),r < k->Sep ((p,Bx (n+3))::(sl,R)::Δ) H'->Q (.int (r:Int)) H')->ZdZ vs H Q w_3
theorem Zaj (B:Nat):∀(ts:List Str)(k:Nat)(z:Str),(∀ t∈ts,t.length<=B)->(textFrom k z ts).length<=z.length+ts.length * (B+2)
 | [],_,z,_=>by show z.length<=z.length+0 * (B+2);omega
 | t::r,k,z,h=>by
  have h1:=Zaj B r (k+1) (z++(if k > 0 then ", " else "":String)++t) fun x G=>h x (mem_cons_of_mem _ G)
  have h2:=h t mem_cons_self
  rw [YI,YI] at h1
  have I:(Qn (if k > 0 then ", " else "":String)).length<=2:=by split<;>decide
  show (textFrom (k+1) (z++(if k > 0 then ", " else "":String)++t) r).length<=z.length+(r.length+1) * (B+2)
  rw [Nat.add_mul,Nat.one_mul]
  omega
theorem ZeI {i:Int}(h:i.natAbs<=10 ^ 31):i.natAbs.log2 < 1920/\(Qn (toString i)).length<=40:=by
 constructor
 ·by_cases z:i.natAbs=0
  ·rw [z];decide
  ·exact (Nat.log2_lt z).mpr (QW h (by decide +kernel))
 ·have e:=int_text_length_le10 (a:=i) (k:=32) (by decide) (QW h (by decide))
  rw [Ye,Mb,length_map,String.length_toList]
  omega
theorem ZdS (q c:Nat)(h:c < 128):(Gc q c).length<=4:=by
 by_cases e:(c == q || c == 92)=true
 ·unfold Gc;simp only [e,if_true];show 2<=4;decide
 ·have B:(c == 200 || c == 92)=false:=by
   simp only [NV,not_or,beq_iff_eq] at e
   simp only [Bool.or_eq_false_iff,beq_eq_false_iff_ne]
   exact ⟨by omega,e.2⟩
  have z:Gc q c=Gc 200 c:=by
   unfold Gc
   simp only [Bool.not_eq_true] at e
   simp only [e,B]
  rw [z]
  have all:∀ c:_root_.Fin 128,(Gc 200 c.val).length<=4:=by decide +kernel
  exact all ⟨c,h⟩
theorem ZjD (h:∀ c∈x.cps.toList,c < 128):(reprText x).length<=2+4 * x.length:=by
 rw [<- reprLen_eq,<- Array.foldl_toList,Ye]
 have z:∀ (l:List Nat) (n:Nat),(∀ c∈l,c < 128)->l.foldl (fun n c=>n+(Gc (reprQuote x) c).length) n<=n+4 * l.length:=by
  intro l
  induction l with
  | nil=>intro n _;simp
  | cons c r ih =>
   intro n B
   have h1:=ZdS (reprQuote x) c (B c mem_cons_self)
   have h2:=ih (n+(Gc (reprQuote x) c).length) fun d G=>B d (mem_cons_of_mem _ G)
   rw [Rp,length_cons]
   omega
 exact z _ _ h
structure Sml (d:QM)(n k:Nat):Prop where
 sh:d.showable=true
 ln:d.shown.length<=n
 dp:d.depth<=k
theorem Zly {n:Nat}(h:∀ c∈x.cps.toList,c < 128)(z:2+4 * x.length<=n)(k:Nat):Sml (.str x) n k:=⟨rfl,Qo (ZjD h) z,Qx _⟩
theorem Uh:∀ ds:List QM,PX ds=ds.map GD
 | []=>rfl
 | d::r=>by rw [PX,Uh r];rfl
theorem WB:∀{ds:List QM},(∀ d∈ds,d.showable=true)->OF ds=true
 | [],_=>rfl
 | d::r,h=>by rw [OF,h d mem_cons_self,WB fun e z=>h e (mem_cons_of_mem _ z)];rfl
theorem Uu {k:Nat}:∀{ds:List QM},(∀ d∈ds,d.depth<=k)->Gy ds<=k
 | [],_=>Qx _
 | d::r,h=>by
  have h1:=h d mem_cons_self
  have h2:=Uu (k:=k) (ds:=r) fun e z=>h e (mem_cons_of_mem _ z)
  simp [Gy];omega
theorem ZdA {ds:List QM}{n k:Nat}(h:∀ d∈ds,Sml d n k):Sml (.list ds) (2+ds.length * (n+2)) (k+1):=by
 refine ⟨WB fun d B=>(h d B).sh,?_,?_⟩
 ·show (listText (PX ds)).length<=_
  rw [Uh]
  show (textFrom 0 "[" (ds.map GD)++Qn "]").length<=_
  rw [YI]
  have z:=Zaj n (ds.map GD) 0 "[" (fun t I=>by
   obtain ⟨d,B,rfl⟩:=mem_map.mp I
   exact (h d B).ln)
  rw [length_map] at z
  have G:(Qn "[").length=1:=by decide
  have J:(Qn "]").length=1:=by decide
  have W:(textFrom 0 "[" (ds.map GD)).length<=1+ds.length * (n+2):=by rw [<- G];exact z
  omega
 ·have:=Uu (k:=k) fun d B=>(h d B).dp
  show Gy ds+1<=_
  omega
def Uk (K:Qa)(C:Addr)(nds:List Nd)(tabs:List (Zn×V)):Yv:=fun st h=>nds[0]?=some .bare/\∃ ln dt,StoreAt K C st ln dt h nds tabs
def Zie (lp:Pos)(q:Str):Yv:=fun Pl h=>LamAt h Pl lp q
instance {K:Qa} {C:Addr} {nds:List Nd} {tabs:List (Zn×V)}:Up (Uk K C nds tabs):=⟨fun ⟨h0,ln,dt,h⟩ s=>⟨h0,ln,dt,h.keep s⟩⟩
theorem LamAt.same' (h:LamAt H Pl z q)(s:Same H H'):LamAt H' Pl z q:=by
 rcases h with h | ⟨c,h1,h2⟩
 ·exact .inl (s _ _ h)
 ·exact .inr ⟨c,s _ _ h1,s _ _ h2⟩
def some_of (H:Hp)(L:List Addr):Hp:=fun b=>if b∈L then H b else match H b with
 | some o=>if Yn o=true then none else some o
 | none=>none
theorem WZ :Same (some_of H L) H:=fun b o e=>by
 unfold some_of at e
 split at e
 ·exact e
 ·split at e
  ·rename_i o' h'
   split at e
   ·cases e
   ·cases e;exact h'
  ·cases e
theorem Wg (h:b∈L):some_of H L b=H b:=by unfold some_of;rw [if_pos h]
theorem UL (e:H b=some o)(m:Yn o=false):some_of H L b=some o:=by
 unfold some_of
 split
 ·exact e
 ·simp only [e,m,Jj,if_false]
theorem WD (e:some_of H L b=some o)(m:Yn o=true):b∈L:=by
 unfold some_of at e
 split at e
 ·assumption
 ·split at e
  ·split at e
   ·cases e
   ·rename_i h;cases e;exact absurd m h
  ·cases e
theorem Zfb :TF H (some_of H L):=⟨fun b xs e=>UL e rfl,fun b o u e=>UL e rfl⟩
theorem Sep.stoLam (S:Sep ((st,Uk K C nds W)::(Pl,Zie lp q)::Δ) H):
 ∃ I J,StoreAt K C st I J H nds W/\nds[0]?=some .bare/\LamAt H Pl lp q/\∀ H' nds' G,StoreAt K C st I J H' nds' G->nds'[0]?=some .bare->LamAt H' Pl lp q->Kq [I,J,Pl] H H'->Sep ((st,Uk K C nds' G)::(Pl,Zie lp q)::Δ) H':=by
 obtain ⟨h1,l1,⟨b0,I,J,r1⟩,h2,l2,r2,S⟩:=S
 have r2':LamAt h2 Pl lp q:=r2
 refine ⟨I,J,r1.keep l1,b0,(LamAt.same' r2' l2).same' ZaU,fun H' nds' G S' b0' L' kq=>?_⟩
 obtain ⟨tb,etb⟩:=r2'.tbl
 obtain ⟨tb',B⟩:=L'.tbl
 obtain ⟨dx,ob⟩:=r1.ob
 obtain ⟨as,nl,_⟩:=r1.nl
 obtain ⟨dx',ob'⟩:=S'.ob
 obtain ⟨as',nl',Y,nod'⟩:=S'.nl
 have nPl:Pl ∉ [st,I,J]:=fun z=>by
  simp only [mem_cons,not_mem_nil,or_false] at z
  rcases z with z | z | z
  ·rw [z,ob'] at B;cases B
  ·rw [z,nl'] at B;cases B
  ·rw [z,S'.tb] at B;cases B
 refine ⟨some_of H' [st,I,J],WZ,⟨b0',I,J,⟨⟨dx',by rw [Wg (by simp)];exact ob'⟩,⟨as',by rw [Wg (by simp)];exact nl',Y,fun i a n e1 e2=>(nod' i a n e1 e2).tf Zfb⟩,by rw [Wg (by simp)];exact S'.tb⟩⟩,?_⟩
 have imm:∀ b o,H' b=some o->Yn o=false->Um H' (some_of H' [st,I,J]) b=some o:=fun b o e m=>cut_some.mpr ⟨e,fun u z=>by have:=WZ _ _ z;rw [e] at this;cases this;exact m⟩
 refine ⟨some_of (Um H' (some_of H' [st,I,J])) [Pl],WZ,?_,S.mono fun b o e=>?_⟩
 ·have Z:some_of (Um H' (some_of H' [st,I,J])) [Pl] Pl=H' Pl:=by
   rw [Wg (by simp)]
   have:Um H' (some_of H' [st,I,J]) Pl=some (.tbl tb'):=cut_some.mpr ⟨B,fun u z=>by
    cases m:Yn u with
    | false=>rfl
    | true=>exact absurd (WD z m) nPl⟩
   rw [this,B]
  rcases L' with z | ⟨c,z1,z2⟩
  ·exact .inl (by rw [Z];exact z)
  ·refine .inr ⟨c,by rw [Z];exact z1,?_⟩
   exact UL (imm _ _ z2 rfl) rfl
 ·obtain ⟨e1,e2⟩:=cut_some.mp e
  obtain ⟨e3,e4⟩:=cut_some.mp e1
  have n1:b≠I:=fun z=>by have:=e4 _ (z ▸ nl);cases this
  have n2:b≠J:=fun z=>by have:=e4 _ (z ▸ r1.tb);cases this
  have n3:b≠Pl:=fun z=>by have:=e2 _ (z ▸ etb);cases this
  have n4:b≠st:=fun z=>by have:=e4 _ (z ▸ ob);cases this
  have e5:=kq b o (by simp [n1,n2,n3]) e3
  refine cut_some.mpr ⟨cut_some.mpr ⟨e5,fun u z=>?_⟩,fun u z=>?_⟩
  ·cases m:Yn u with
   | false=>rfl
   | true=>have:=WD z m;simp [n1,n2,n4] at this
  ·cases m:Yn u with
   | false=>rfl
   | true=>have:=WD z m;simp [n3] at this
def Zal (C:Addr)(fs:List (Str×V)):Yv:=fun a h=>∃ dx,h a=some (.ins C dx fs)
instance {C:Addr} {fs:List (Str×V)}:Up (Zal C fs):=⟨fun ⟨dx,h⟩ s=>⟨dx,s _ _ h⟩⟩
structure ZE where
 ah:Nat
 st:Stp
 tb:Nat
 co:Nat
def UQ (ss:List Stp):Yv:=fun l h=>∃ as:List Addr,h l=some (.lst (V.non::as.map V.ref))/\as.length=ss.length/\∀(i:Nat)(a:Addr)(s:Stp),as[i]?=some a->ss[i]?=some s->h a=some (.tup s.vs)
instance {ss:List Stp}:Up (UQ ss):=⟨fun ⟨as,e,l,h⟩ s=>⟨as,s _ _ e,l,fun i a x e1 e2=>s _ _ (h i a x e1 e2)⟩⟩
abbrev UJ (st la ls lt lc:Addr):List (Str×V):=[("kept",.ref st),("aheads",.ref la),("steps",.ref ls),("tables",.ref lt),("costs",.ref lc)]
abbrev Zig (K:Qa)(CR CS:Addr)(pls:List ZE)(nds:List Nd)(tabs:List (Zn×V))(r st la ls lt lc:Addr):Rs :=
 [(r,Zal CR (UJ st la ls lt lc)),(st,Uk K CS nds tabs),(la,ZO (V.non::pls.map fun q=>V.int (q.ah:Int))),(ls,UQ (pls.map (·.st))),(lt,ZO (V.int 0::pls.map fun q=>V.int (q.tb:Int))),(lc,ZO (V.int 0::pls.map fun q=>V.int (q.co:Int)))]
def Wk (K:Qa)(CR CS:Addr)(pls:List ZE)(nds:List Nd)(tabs:List (Zn×V)):Yv:=fun r h=>∃ st la ls lt lc,Sep (Zig K CR CS pls nds tabs r st la ls lt lc) h
instance {K:Qa} {CR CS:Addr} {pls:List ZE} {nds:List Nd} {tabs:List (Zn×V)}:Up (Wk K CR CS pls nds tabs):=⟨fun ⟨st,la,ls,lt,lc,S⟩ s=>⟨st,la,ls,lt,lc,S.mono s⟩⟩
theorem Sep.roaO {K:Qa}{CR CS r:Addr}{pls:List ZE}{nds:List Nd}{z:List (Zn×V)}{Δ:Rs}{H:Hp}(S:Sep ((r,Wk K CR CS pls nds z)::Δ) H):∃ st J I lt B,Sep ((r,Zal CR (UJ st J I lt B))::(st,Uk K CS nds z)::(J,ZO (V.non::pls.map fun q=>V.int (q.ah:Int)))::(I,UQ (pls.map (·.st)))::(lt,ZO (V.int 0::pls.map fun q=>V.int (q.tb:Int)))::(B,ZO (V.int 0::pls.map fun q=>V.int (q.co:Int)))::Δ) H:=by
 obtain ⟨h,l,⟨st,J,I,lt,B,G⟩,S⟩:=S
 exact ⟨st,J,I,lt,B,Sep.nest (a:=r) (Γ:=Zig K CR CS pls nds z r st J I lt B) l G S⟩
theorem Sep.roaC {K:Qa}{CR CS r st J I lt B:Addr}{pls:List ZE}{nds:List Nd}{z:List (Zn×V)}{Δ:Rs}{H:Hp}(S:Sep ((r,Zal CR (UJ st J I lt B))::(st,Uk K CS nds z)::(J,ZO (V.non::pls.map fun q=>V.int (q.ah:Int)))::(I,UQ (pls.map (·.st)))::(lt,ZO (V.int 0::pls.map fun q=>V.int (q.tb:Int)))::(B,ZO (V.int 0::pls.map fun q=>V.int (q.co:Int)))::Δ) H):Sep ((r,Wk K CR CS pls nds z)::Δ) H :=
 Sep.pack (Γ:=Zig K CR CS pls nds z r st J I lt B) S fun h G=>⟨st,J,I,lt,B,G⟩
theorem Sep.imm (S:Sep Δ H)(e:H a=some o)(m:Yn o=false):Sep ((a,Pt o)::Δ) H:=by
 refine ⟨one a o,fun b u q=>?_,one_some.mpr ⟨rfl,rfl⟩,S.mono fun b u q=>cut_some.mpr ⟨q,fun v z=>?_⟩⟩
 ·obtain ⟨rfl,rfl⟩:=one_some.mp q;exact e
 ·obtain ⟨rfl,rfl⟩:=one_some.mp z;exact m
theorem Sep.updR (S:Sep Δ H)(a:Addr)(o':HO)[P:Pull a Δ R G](m:∀ h,R a h->∃ o,h a=some o/\Yn o=true)(f:∀ h,R a h->Same h H->∀ h',h' a=some o'->(∀ b o,b≠a->h b=some o->h' b=some o)->(∀ b o,b≠a->H b=some o->Yn o=false->h' b=some o)->T a h'):Sep ((a,T)::G) (upd H a o'):=by
 obtain ⟨h,l,r,S⟩:=P.out S
 obtain ⟨o,ea,W⟩:=m h r
 refine ⟨fun b=>if b=a then some o' else match h b with | some u=>some u | none=>some_of H [] b,fun b u e=>?_,f h r l _ (if_pos rfl) (fun b u I e=>?_) (fun b u I e Y=>?_),S.mono fun b u e=>?_⟩
 ·dsimp only at e
  by_cases B:b=a
  ·rw [if_pos B] at e;cases e;rw [B];exact Zh
  ·rw [if_neg B] at e
   rw [Zj B]
   cases q:h b with
   | some z=>rw [q] at e;cases e;exact l _ _ q
   | none=>rw [q] at e;exact WZ _ _ e
 ·rw [if_neg I,e]
 ·rw [if_neg I]
  cases q:h b with
  | some z=>have:=l _ _ q;rw [e] at this;cases this;rfl
  | none=>exact UL e Y
 ·obtain ⟨e1,J⟩:=cut_some.mp e
  have B:b≠a:=fun z=>by have:=J o (by rw [z];exact ea);rw [W] at this;cases this
  refine cut_some.mpr ⟨by rw [Zj B];exact e1,fun v q=>?_⟩
  simp only [if_neg B] at q
  cases z:h b with
  | some x=>rw [z] at q;cases q;exact J _ z
  | none =>
   rw [z] at q
   cases mm:Yn v with
   | false=>rfl
   | true=>have:=WD q mm;cases this
theorem Sep.stepApp {Δ W:Rs}{H:Hp}{Y:List Stp}{s:Stp}{I:Addr}{as:List Addr}(S:Sep Δ H)(l:Addr)[P:Pull l Δ (UQ Y) W](e:H l=some (.lst (V.non::as.map V.ref)))(es:H I=some (.tup s.vs)):Sep ((l,UQ (Y++[s]))::W) (upd H l (.lst (V.non::as.map V.ref++[V.ref I]))):=by
 refine S.updR l _ (fun h ⟨as,e,_⟩=>⟨_,e,rfl⟩) fun h r l' h' e1 e2 e3=>?_
 obtain ⟨B,e4,hl,hs⟩:=r
 have e5:=l' _ _ e4
 rw [e] at e5
 have e6:as.map V.ref=B.map V.ref:=(Ss (HO.lst.inj (Qu e5))).2
 refine ⟨B++[I],?_,by rw [length_append,length_append,hl];rfl,fun i a x G J=>?_⟩
 ·rw [e1,map_append,e6];rfl
 ·have nsa:I≠l:=fun z=>by rw [z,e] at es;cases es
  by_cases hi:i < B.length
  ·rw [getElem?_append_left hi] at G
   rw [getElem?_append_left (by omega)] at J
   have Z:=hs i a x G J
   exact e2 _ _ (fun z=>by rw [z,e4] at Z;cases Z) Z
  ·rw [getElem?_append_right (by omega)] at G J
   have h0:i - B.length=0:=by
    cases z:i - B.length with
    | zero=>rfl
    | succ j=>rw [z] at G;simp at G
   rw [h0] at G
   rw [show i - Y.length=0 by omega] at J
   cases (show some I=some a from G)
   cases (show some s=some x from J)
   exact e3 _ _ nsa es rfl
def Stp.ap:Stp->(Str->Option V)->(Str->Option V)
 | .set x v,F=>fun y=>if y=x then some v else F y
 | .clr x,F=>fun y=>if y=x then none else F y
def envs (pls:List ZE):List (Str->Option V):=pls.foldl (fun es q=>es++[q.st.ap (es.getD q.ah fun _=>none)]) [fun _=>none]
theorem XZ (pls:List ZE)(q:ZE):envs (pls++[q])=envs pls++[q.st.ap ((envs pls).getD q.ah fun _=>none)]:=by
 unfold envs;rw [Sh];rfl
theorem ZbT {α:Type}{P:List α->Prop}(h0:P [])(hs:∀ l a,P l->P (l++[a])):∀ l,P l:=by
 have key:∀ n (l:List α),l.length=n->P l:=by
  intro n
  induction n with
  | zero=>intro l h;rw [eq_nil_of_length_eq_zero h];exact h0
  | succ n ih =>
   intro l h
   have hne:l≠[]:=fun z=>by rw [z] at h;cases h
   rw [<- List.dropLast_concat_getLast hne]
   exact hs _ _ (ih _ (by rw [List.length_dropLast];omega))
 exact fun l=>key _ l rfl
theorem Xd (pls:List ZE):(envs pls).length=pls.length+1:=by
 induction pls using ZbT with
 | h0=>rfl
 | hs l q ih=>rw [XZ,length_append,ih,length_append];rfl
end L2
namespace L2
open PySem PySem.Spec PyProof.Rows
def Itz (K:Qa)(l1 l2:Addr):It :=
 ⟨fun i H=>∃ xs ys x y,SqL K H l1 xs/\SqL K H l2 ys/\xs[i]?=some x/\ys[i]?=some y,
  fun i H v H'=>∃ t x y,H t=none/\(∀ xs,SqL K H l1 xs->xs[i]?=some x)/\(∀ ys,SqL K H l2 ys->ys[i]?=some y)/\v=.ref t/\H'=upd H t (.tup [x,y]),
  fun i H=>∃ xs ys,SqL K H l1 xs/\SqL K H l2 ys/\(xs.length<=i\/ys.length<=i)⟩
theorem ZjS {P:Qk}{w:Qs}{K:Qa}{elts:List Expr}{x1:Nat}{tp:Pos}{z TI TO Y Z l1 l2:Addr}(D:Nk z TI TO Y Z l1 l2)(hTl1:l1≠TI)(hTl2:l2≠TI) :
 UR P w K (.Tuple elts x1 tp) (Itz K l1 l2) [z,TI,TO,Y,Z] z (fun i h=>TH h z TI TO .none/\Jl h TI (.ref Y) (.ref Z)/\(∃ a b,Jl h TO a b)/\h.IsListIter Y l1 i/\h.IsListIter Z l2 i) where
 mem:=by simp
 obj:=fun i h st b G=>by
  obtain ⟨hz,B,⟨a,c,J⟩,⟨o1,ho1,c1,d1⟩,⟨o2,ho2,c2,d2⟩⟩:=st
  simp only [mem_cons,not_mem_nil,or_false] at G
  rcases G with q | q | q | q | q
  ·rw [q];exact ⟨_,hz,fun v z=>by cases z⟩
  ·rw [q];exact ⟨_,B,fun v z=>by cases z⟩
  ·rw [q];exact ⟨_,J,fun v z=>by cases z⟩
  ·rw [q];exact ⟨o1,ho1,fun v z=>by rw [d1] at z;cases z⟩
  ·rw [q];exact ⟨o2,ho2,fun v z=>by rw [d2] at z;cases z⟩
 keep:=fun i h h' st k=>by
  obtain ⟨hz,B,⟨a,c,J⟩,h1,h2⟩:=st
  exact ⟨k z (by simp) _ hz,k TI (by simp) _ B,⟨a,c,k TO (by simp) _ J⟩,h1.at fun o y=>k Y (by simp) o y,h2.at fun o y=>k Z (by simp) o y⟩
 item:=by
  intro X hP hw hK hc i pins s σ H E I hf st hg
  subst hP hw hK
  obtain ⟨hz,B,⟨a,b,J⟩,h1,h2⟩:=st
  obtain ⟨xs,ys,x,y,hq1,hq2,hx,hy⟩:=hg
  obtain ⟨its1,rv1,p1,hz1⟩:=I.list hq1
  obtain ⟨its2,rv2,p2,hz2⟩:=I.list hq2
  obtain ⟨u1,hu1,ru1⟩:=rv1.get hx
  obtain ⟨u2,hu2,ru2⟩:=rv2.get hy
  refine wpAny_pyNext_zip_item D hz B J h1 h2 p1.isList p2.isList (by simpa using hu1) (by simpa using hu2) fun h' g1 g2 g3 g4 g5 g6 g7=>?_
  refine ⟨_,rfl,TL g1 fun h2' g1' W=>?_⟩
  have hzl:z < s.heap.objs.size:=Qi hz
  have hTIl:TI < s.heap.objs.size:=Qi B
  have hTOl:TO < s.heap.objs.size:=Qi J
  have hi1l:Y < s.heap.objs.size:=by obtain ⟨o,ho,_⟩:=h1;exact Qi ho
  have hi2l:Z < s.heap.objs.size:=by obtain ⟨o,ho,_⟩:=h2;exact Qi ho
  have g5':h'.get? s.heap.objs.size=some ({ cls:=.type "tuple",data:=.seq #[u1,u2] }:Obj):=g5
  generalize hO:({ cls:=.type "tuple",data:=.seq #[u1,u2] }:Obj)=O at g5'
  have I1:Inv X pins σ (upd H s.heap.objs.size (.tup [x,y])) { s with heap:=s.heap.push O,toks:=s.toks }:=by
   refine I.laid (t':=s.toks) (fun b o y=>Qd _ y) (Qf _) (show ObjOk X.prog X.w _ _ _ (.tup _) from ⟨by show 2<=Qg;decide,[u1,u2],.cons ru1 (.cons ru2 .nil),?_⟩)
   rw [<- hO];exact Pp _ _
  have hfree:=I.hok.fresh (Qf s.heap.objs.size)
  have hf2:∀ b∈[z,TI,TO,Y,Z],Xz X pins (upd H s.heap.objs.size (.tup [x,y])) b:=fun b G=>by
   obtain ⟨f0,f1⟩:=hf b G
   have hb':b≠s.heap.objs.size:=by
    simp only [mem_cons,not_mem_nil,or_false] at G
    rcases G with q | q | q | q | q<;>(rw [q];exact Qt (by assumption))
   exact ⟨by rw [Zj hb'];exact f0,f1⟩
  have I2:Inv X pins σ (upd H s.heap.objs.size (.tup [x,y])) { s with heap:=h2',toks:=s.toks }:=by
   refine I1.turned2 (t':=s.toks) (h':=h2') (fun b o G y=>?_) hf2
   have n1:b≠z:=fun q=>G (by simp [q])
   have n2:b≠TO:=fun q=>G (by simp [q])
   have n3:b≠Y:=fun q=>G (by simp [q])
   have n4:b≠Z:=fun q=>G (by simp [q])
   rw [W.2 b n1]
   rcases JE y with ⟨q1,q2⟩ | y
   ·rw [q1,q2];exact g5'
   ·exact g7 b o n1 n2 n3 n4 y
  refine ⟨.ref s.heap.objs.size,_,I2,rfl,⟨s.heap.objs.size,x,y,hfree,fun ys hy'=>by rw [I.list_inj hy' hq1];exact hx,fun ys' hy'=>by rw [I.list_inj hy' hq2];exact hy,rfl,rfl⟩,⟨g1',?_,⟨u1,u2,?_⟩,?_,?_⟩,fun b G=>(hf2 b G).1⟩
  ·show h2'.get? TI=_
   rw [W.2 TI D.TIz];exact g7 TI _ D.TIz D.TITO D.TIi1 D.TIi2 B
  ·show h2'.get? TO=_
   rw [W.2 TO D.TOz];exact g2
  ·exact g3.at fun o y=>by rw [W.2 Y D.i1z];exact y
  ·exact g4.at fun o y=>by rw [W.2 Z D.i2z];exact y
 done:=by
  intro X hP hw hK hc i pins s σ H E I hf st hg
  subst hP hw hK
  obtain ⟨hz,B,⟨a,b,J⟩,h1,h2⟩:=st
  obtain ⟨xs,ys,hq1,hq2,hle⟩:=hg
  obtain ⟨its1,rv1,p1,hz1⟩:=I.list hq1
  obtain ⟨its2,rv2,p2,hz2⟩:=I.list hq2
  have l1:=rv1.length
  have l2:=rv2.length
  refine wpAny_pyNext_zip_end (I.ok.hd hc) D hz B J h1 h2 p1.isList p2.isList ?_ fun h' eb=>⟨rfl,I.turned2 (t':=s.toks) (fp:=[z,TI,TO,Y,Z]) (fun b o G y=>eb b o (fun q=>G (by simp [q])) (fun q=>G (by simp [q])) (fun q=>G (by simp [q])) (fun q=>G (by simp [q])) y) hf⟩
  rcases hle with q | q
  ·exact .inl (Jm (by simp;omega))
  ·exact .inr (Jm (by simp;omega))
 self:=fun _ _ _ _ _ st h=>Pu st.1 h
def iZip (K:Qa)(ta tb:TE):TI:=fun σ H R=>ta σ H fun v H1=>tb σ H1 fun u H2=>∃ a b xs ys,[v,u]=[V.ref a,V.ref b]/\H2 a=some (.lst xs)/\H2 b=some (.lst ys)/\R (Itz K a b) H2
section
variable {X:Cx}
theorem Zdh:JI "zip"=some (.type "zip"):=by decide +kernel
theorem ZmK {x1:Nat}(hg:Gl X "zip")(hm:X.mg "zip"=none)(hl:PE X l ta)(hr:PE X m tb)(he:QA [l,m] X.env=(false,eval l X.env)::QA [m] X.env:=by rfl)(Z:QA [m] X.env=[(false,eval m X.env)]:=by rfl)(hpl:(GZ pos (QA [m] X.env)).any (·.1)=false:=by rfl):PI X (.Tuple G x1 tp) (.Call (.Name "zip" p) [l,m] [] pos) (iZip X.K ta tb):=by
 intro pins s σ H R I h
 have ha:PA X [l,m] (Xh ta (Xh tb Wa)):=Yq hl (Yq hr Za Z) he
 refine Gb (Wp I hg hm Zdh ?_)
 refine Gh (Zw (ha pos pins s σ H (fun vs H2=>∃ a b xs ys,vs=[V.ref a,V.ref b]/\H2 a=some (.lst xs)/\H2 b=some (.lst ys)/\R (Itz X.K a b) H2) I h) fun us s1 zz=>?_) he hpl
 obtain ⟨vs,H1,J,r1,a,b,xs,ys,e,ea,eb,q⟩:=zz
 subst e
 obtain ⟨Y,W,rfl,r2,r3⟩:∃ Y W,us=[Y,W]/\RelV (V.ref a) Y/\RelV (V.ref b) W:=by
  cases r1 with
  | cons p t=>cases t with
   | cons p2 t2=>cases t2;exact ⟨_,_,rfl,p,p2⟩
 cases r2
 cases r3
 obtain ⟨z1,its1,n1,rv1,hl1,B⟩:=J.lstM ea
 obtain ⟨z2,its2,n2,rv2,hl2,z⟩:=J.lstM eb
 have ha1:a < s1.heap.objs.size:=Qi B
 have hb1:b < s1.heap.objs.size:=Qi z
 refine call_zip_2 ⟨_,B,rfl,n1,rfl⟩ ⟨_,z,rfl,n2,rfl⟩ fun h' g1 g2 g3 g4 g5 g6 g7=>Pu g1 ?_
 refine ⟨s1.heap.objs.size+4,[s1.heap.objs.size+4,s1.heap.objs.size+2,s1.heap.objs.size+3,s1.heap.objs.size,s1.heap.objs.size+1],_,_,H1,rfl,J.kept (t':=s1.toks) g7,ZjS (l1:=a) (l2:=b) ⟨?_,?_,?_,?_,?_,?_,?_,?_,?_,?_,?_,?_,?_,?_,?_,?_,?_,?_⟩ ?_ ?_,⟨g1,g2,⟨_,_,g3⟩,g4,g5⟩,fun c hc=>?_,q⟩
 rotate_right
 ·simp only [mem_cons,not_mem_nil,or_false] at hc
  have up:∀ k,Xz X pins H1 (s1.heap.objs.size+k):=fun k=>J.fpOk (Jc _ k) (J.hok.fresh (Jc _ k))
  rcases hc with q | q | q | q | q
  ·rw [q];exact up 4
  ·rw [q];exact up 2
  ·rw [q];exact up 3
  ·rw [q];exact up 0
  ·rw [q];exact up 1
 all_goals
  first
   | exact Qt (by first | (apply QB (by assumption);omega) | (simp only [Jd];decide) | (show _ < _+_;exact Je (by decide)))
   | exact GC (by first | (simp only [Jd];decide) | exact Je (by decide))
end
mutual
inductive DatT (K:Qa)(H:Hp):V->QM->Prop
 | non:DatT K H .non .none
 | int (i):DatT K H (.int i) (.int i)
 | str (x):DatT K H (.str x) (.str x)
 | tup {a xs ds}:SqT K H a xs->DatTs K H xs ds->DatT K H (.ref a) (.tuple ds)
inductive DatTs (K:Qa)(H:Hp):List V->List QM->Prop
 | nil:DatTs K H [] []
 | cons {v d vs ds}:DatT K H v d->DatTs K H vs ds->DatTs K H (v::vs) (d::ds)
end
section
variable {X:Cx}{pins:List (Addr×Obj)}{σ:St}{H:Hp}{s:Qe}
mutual
theorem DatT.reads (I:Inv X pins σ H s):∀{v d}(u:Qc),DatT X.K H v d->RelV v u->d.hasDict=false/\∃ as,Reads s.heap u d as
 | _,_,u,.non,r=>by cases (show u=.none from r);exact ⟨rfl,_,.none⟩
 | _,_,u,.int i,r=>by obtain ⟨t,e⟩:=(show ∃ t,u=.int i t from r);subst e;exact ⟨rfl,_,.int i t⟩
 | _,_,u,.str x,r=>by obtain ⟨t,e⟩:=(show ∃ t,u=.str x t from r);subst e;exact ⟨rfl,_,.str x t⟩
 | _,_,u,.tup (a:=a) (xs:=xs) e q,r=>by
  cases (show u=.ref a from r)
  obtain ⟨z,G,⟨o,g,c,n,d⟩,_⟩:=I.tuple e
  obtain ⟨J,as,B⟩:=DatTs.reads I z q G
  exact ⟨by simpa [Pf] using J,_,.tuple g c d (by simpa using B)⟩
theorem DatTs.reads (I:Inv X pins σ H s):∀{vs ds}(us:List Qc),DatTs X.K H vs ds->Vals vs us->GN ds=false/\∃ as,ReadsAll s.heap us ds as
 | _,_,_,.nil,.nil=>⟨rfl,_,.nil⟩
 | _,_,_,.cons r t,.cons rv tv=>by
  obtain ⟨B,as,G⟩:=DatT.reads I _ r rv
  obtain ⟨z,bs,J⟩:=DatTs.reads I _ t tv
  exact ⟨by simp [GN,B,z],_,.cons G J⟩
end
end
theorem ZkJ {i:Int}(h:i.natAbs<=10 ^ 31)(k:Nat):Sml (.int i) 40 k:=⟨decide_eq_true (ZeI h).1,(ZeI h).2,Qx _⟩
end L2
namespace L2
open PySem
end L2
namespace L2
open PySem PySem.W PySem.Spec PyProof.Rows
section
variable {X:Cx}
end
end L2
namespace L2
open PySem
inductive ZhR (t u:TS)(D:YA)(σ:St)(H:Hp):Prop
 | mk (I:St->Hp->Prop):t { D with nx:=I } σ H->(∀ σ' H',I σ' H'->u D σ' H')->ZhR t u D σ H
def tCut (t u:TS):TS:=fun D σ H=>ZhR t u D σ H
theorem Zlq (h1:PS X st t)(h2:PSs X rest u):PSs X (st::rest) (tCut t u):=by
 intro pins s σ H D I h
 obtain ⟨J,h,g⟩:=h
 refine Sw (Zw (h1 pins s σ H { D with nx:=J } I h) fun f s1 q=>?_)
 cases f with
 | next =>
  obtain ⟨z,H',B,q⟩:=q
  exact h2 pins s1 z H' D B (g _ _ q)
 | ret v=>exact q
 | brk=>exact q
 | cont=>exact q
end L2
namespace L2
open PySem PySem.Spec PyProof.Rows
theorem zs2 (h:let G:YA:=D;let S:St:=σ;let I:St->Hp->Prop:=z G;B { G with nx:=I } S H):(YX B z) D σ H:=h
theorem zs3 (h:let z:YA:=D;let S:St:=σ;let J:St->Hp->Prop:=G z;let W:St->Hp->Prop:=B { z with nx:=J };I { z with nx:=W } S H):(YX I (YX B G)) D σ H:=h
theorem zs4 (h:let z:YA:=D;let S:St:=σ;let W:St->Hp->Prop:=J z;let Y:St->Hp->Prop:=I { z with nx:=W };let Z:St->Hp->Prop:=B { z with nx:=Y };G { z with nx:=Z } S H):(YX G (YX B (YX I J))) D σ H:=h
theorem zs5 (h:let z:YA:=D;let S:St:=σ;let Y:St->Hp->Prop:=J z;let Z:St->Hp->Prop:=W { z with nx:=Y };let N2:St->Hp->Prop:=I { z with nx:=Z };let N1:St->Hp->Prop:=B { z with nx:=N2 };G { z with nx:=N1 } S H):(YX G (YX B (YX I (YX W J)))) D σ H:=h
theorem zs6 (h:let z:YA:=D;let S:St:=σ;let N5:St->Hp->Prop:=Y z;let Z:St->Hp->Prop:=J { z with nx:=N5 };let N3:St->Hp->Prop:=W { z with nx:=Z };let N2:St->Hp->Prop:=I { z with nx:=N3 };let N1:St->Hp->Prop:=B { z with nx:=N2 };G { z with nx:=N1 } S H):(YX G (YX B (YX I (YX W (YX J Y))))) D σ H:=h
theorem zs8 (h:let z:YA:=D;let S:St:=σ;let N7:St->Hp->Prop:=a8 z;let N6:St->Hp->Prop:=W { z with nx:=N7 };let N5:St->Hp->Prop:=Z { z with nx:=N6 };let N4:St->Hp->Prop:=J { z with nx:=N5 };let N3:St->Hp->Prop:=Y { z with nx:=N4 };let N2:St->Hp->Prop:=I { z with nx:=N3 };let N1:St->Hp->Prop:=B { z with nx:=N2 };G { z with nx:=N1 } S H):(YX G (YX B (YX I (YX Y (YX J (YX Z (YX W a8))))))) D σ H:=h
end L2
namespace K26
open PySem L2
def top (i:Nat):Stmt:=PB.main.body.getD i (.Pass ⟨0,0,0,0⟩)
abbrev s_is_number:Stmt:=top 3
abbrev s_alike:Stmt:=top 4
abbrev s_mark:Stmt:=top 5
abbrev s_digit:Stmt:=top 6
abbrev s_leaf_of:Stmt:=top 11
abbrev s_fork_of:Stmt:=top 12
abbrev s_parts_in:Stmt:=top 13
abbrev s_pairs_in:Stmt:=top 14
abbrev s_has_mark:Stmt:=top 15
abbrev s_look_paper:Stmt:=top 21
abbrev s_shows_look:Stmt:=top 22
abbrev s_is_tuple_of:Stmt:=top 23
abbrev c_Store___init__:Stmt:=ZV (top 30) 0
abbrev c_Store_empty:Stmt:=ZV (top 30) 1
abbrev c_Store_put:Stmt:=ZV (top 30) 2
abbrev c_Store_without:Stmt:=ZV (top 30) 3
abbrev c_Store_looked:Stmt:=ZV (top 30) 4
abbrev c_Store_way:Stmt:=ZV (top 30) 7
abbrev c_Store_made:Stmt:=ZV (top 30) 9
abbrev c_Store_check_table:Stmt:=ZV (top 30) 10
abbrev c_Store_keep:Stmt:=ZV (top 30) 12
abbrev c_Store_as_table:Stmt:=ZV (top 30) 13
abbrev c_Store_put_in:Stmt:=ZV (top 30) 14
abbrev c_Store_fork_parts:Stmt:=ZV (top 30) 15
abbrev c_Store_taken_from:Stmt:=ZV (top 30) 16
abbrev c_Roads___init__:Stmt:=ZV (top 32) 0
abbrev c_Roads_put:Stmt:=ZV (top 32) 1
abbrev c_Roads_clear:Stmt:=ZV (top 32) 2
abbrev c_Roads_ahead:Stmt:=ZV (top 32) 4
abbrev c_Roads_step:Stmt:=ZV (top 32) 5
abbrev c_Roads_last:Stmt:=ZV (top 32) 8
abbrev c_Roads_walked:Stmt:=ZV (top 32) 9
abbrev c_Roads_table:Stmt:=ZV (top 32) 11
abbrev c_Roads_check_place:Stmt:=ZV (top 32) 18
abbrev c_Roads_step_has:Stmt:=ZV (top 32) 19
abbrev c_Roads_go_on:Stmt:=ZV (top 32) 20
abbrev s_l_cell_at:Stmt:=top 34
abbrev s_l_box:Stmt:=top 35
abbrev s_l_take:Stmt:=top 36
abbrev s_l_names:Stmt:=top 37
abbrev s_l_value:Stmt:=top 38
abbrev s_l_pool:Stmt:=top 39
abbrev s_l_values:Stmt:=top 40
abbrev s_l_step:Stmt:=top 41
abbrev s_l_from:Stmt:=top 42
abbrev s_l_grown:Stmt:=top 43
abbrev s_l_road:Stmt:=top 44
abbrev s_l_all:Stmt:=top 45
abbrev s_l_alike:Stmt:=top 46
abbrev s_l_bent:Stmt:=top 47
abbrev s_l_odd:Stmt:=top 48
abbrev s_l_is_whole:Stmt:=top 49
abbrev s_l_shown:Stmt:=top 50
abbrev s_l_spoilt_right:Stmt:=top 51
abbrev s_l_right:Stmt:=top 52
abbrev s_law:Stmt:=top 53
section
variable {P:Qk}{w:Qs}{K:Qa}{mg:Str->Option Qc}{base:Heap}
theorem scC:Zo ["_law_script","_law_k"] ["_law_script","_law_k"] (Zi s_l_cell_at):={}
theorem ZkO (F:Fun K "_law_cell_at" "_law_cell_at" s_l_cell_at f fd)(T:Yj mg):FnOk P w K mg base ZI 1 f fd ["_law_script","_law_k"] (ZdX K):=by
 refine F.ok scC (fun J A outer s H vs Q E hr h=>?_)
 obtain ⟨a,B,k,rfl,I,h0,q⟩:=h
 refine ⟨_,Zf (ZZ (ZG Us (pv 1) (Zu ZH rfl T.len QC (Yq (pv 0) Za)) (ZA _)) (Zg (Zl (Zk Zt (pv 0) (pv 1) (fun _ _=>rfl)))) ZS)
  (Zg (Zl Zc)),?_⟩
 refine ⟨_,rfl,_,rfl,a,_,rfl,.inl I,_,_,rfl,rfl,_,rfl,?_⟩
 refine Xk (fun c=>?_) (fun c=>?_)
 ·have Z:k < (((B.map V.int).length:Nat):Int):=of_decide_eq_true c
  rw [length_map] at Z
  have W:k.toNat < B.length:=by omega
  have Y:k=((k.toNat:Nat):Int):=by omega
  have G:YR (B.map V.int) k=some (.int B[k.toNat]):=by
   have z:YR (B.map V.int) ((k.toNat:Nat):Int)=some (.int B[k.toNat]):=Zm (by rw [getElem?_map,getElem?_eq_getElem W];rfl)
   rwa [<- Y] at z
  exact ⟨_,rfl,_,rfl,a,_,_,_,rfl,rfl,I,G,q _⟩
 ·exact q 0
theorem scB:Zo ["_law_script","_law_k","_law_cell"] ["_law_script","_law_k"] (Zi s_l_box):={}
theorem Zmw (F:Fun K "_law_box" "_law_box" s_l_box f fd)(T:Yj mg)(D:Def P w K mg base 1 "_law_cell_at" ["_law_script","_law_k"] (ZdX K)):FnOk P w K mg base ZI 2 f fd ["_law_script","_law_k"] (Zgf K):=by
 refine F.ok scB (fun B A outer s H vs Q E I h=>?_)
 obtain ⟨a,J,k,rfl,W,G,h1,q⟩:=h
 refine ⟨_,Zf (Zs (i:=2) scB.nd rfl (Qy rfl) (Zy D I (Yq (pv 0) (Yq (pv 1) Za))))
  (Zg (Zl (ZT (Yq (Zp WN (Zu Zdi rfl T.abs (by decide +kernel) (Yq (pv 2) Za)) (ZQ Zcn rfl T.int (by decide +kernel) (Yq (Yx Zki (Zu Zdi rfl T.abs (by decide +kernel) (Yq (pv 2) Za)) (Zp Zbl Zc Zc) (ZA _)) Za)))
   (Yq (Zp Yf (Zp Yf (Zp XU (pv 2) Zc) (Zp WN Zc (pv 1))) Zc) (Yq Zc Za)))))),?_⟩
 refine ⟨_,rfl,_,rfl,a,J,k,rfl,W,G,fun r=>?_⟩
 refine ⟨_,rfl,_,rfl,⟨_,rfl,_,rfl,_,_,rfl,rfl,⟨by decide,by decide,by decide⟩,_,_,rfl,rfl,.inr ⟨_,rfl,?_⟩⟩⟩
 generalize Y:decide ((10:Int) ^ (Int.toNat 18)<=(if r < 0 then -r else r))=z
 refine ⟨_,_,rfl,rfl,.inr (by cases z<;>exact ⟨by decide,by decide⟩),_,rfl,_,_,rfl,rfl,(by show (0:Int) < _;decide),_,rfl,_,_,rfl,rfl,.inl ⟨by decide,by decide⟩,_,_,rfl,rfl,_,_,rfl,rfl,(by show 3<=Qg;decide),fun p hp=>?_⟩
 refine q p _ hp ⟨_,_,0,Zh,?_,by decide,by decide⟩ (Zv hp _)
 cases z
 ·simp
 ·simp only [if_true,Int.mul_one];split<;>omega
theorem scT:Zo ["_law_box_here","_law_many","_law_found","_law_once","_law_twice"] ["_law_box_here","_law_many"] (Zi s_l_take):={}
theorem Zlf (F:Fun K "_law_take" "_law_take" s_l_take f fd):FnOk P w K mg base ZI 1 f fd ["_law_box_here","_law_many"] (VI 4611686018427387904):=by
 refine F.ok scT (fun Y A outer s H vs Q E hr h=>?_)
 obtain ⟨p,n,m,rfl,⟨a,b,c,hp,W,Z,hcn⟩,hn,G,I,q⟩:=h
 refine ⟨_,Zf (ZZ (ZG Zkj (Zk Zt (pv 0) Zc (fun _ _=>rfl)) Zc (ZA _))
     (Zf (Zs (i:=2) scT.nd rfl (Qy rfl) (Zp XU (Zk Zt (pv 0) Zc (fun _ _=>rfl)) (pv 1)))
       (Zf (XX (Zp ZiT (Zk Zt (pv 0) Zc (fun _ _=>rfl)) (pv 1)) (Zbn (pv 0) Zc Vm)) (Zg (Zl (pv 2))))) ZS)
   (Zf (XX (Zp Yf (Zk Zt (pv 0) Zc (fun _ _=>rfl)) Zc) (Zbn (pv 0) Zc Vm))
   (Zf (Zs (i:=3) scT.nd rfl (Qy rfl) (Zp XU (Zp WN (Zp Yf (Zk Zt (pv 0) Zc (fun _ _=>rfl)) (Zp WN Zc (Zk Zt (pv 0) Zc (fun _ _=>rfl)))) (Zp Yf Zc (Zk Zt (pv 0) Zc (fun _ _=>rfl)))) Zc))
   (Zf (Zs (i:=4) scT.nd rfl (Qy rfl) (Zp XU (Zp WN (Zp Yf (pv 3) (Zk Zt (pv 0) Zc (fun _ _=>rfl))) (Zp Yf (Zp XU (pv 3) Zc) Zc)) Zc))
   (Zg (Zl (Zp XU (Zp ZeU (Zp XU (Zp Yf (Zp WN (pv 4) Zc) (pv 3)) Zc) Zc) (pv 1))))))),?_⟩
 refine ⟨_,rfl,p,_,_,_,rfl,rfl,SqL.of hp,rfl,_,_,rfl,rfl,_,rfl,?_⟩
 refine Xk (fun J=>?_) (fun J=>?_)
 · have h0:0 < a:=of_decide_eq_true J
   refine ⟨_,rfl,p,_,_,_,rfl,rfl,SqL.of hp,rfl,_,rfl,_,_,rfl,rfl,G,?_⟩
   refine ⟨_,rfl,p,_,_,_,rfl,rfl,SqL.of hp,rfl,_,rfl,_,_,rfl,rfl,⟨G,by have h4:m < 4611686018427387904:=I;omega⟩,?_⟩
   refine ⟨_,rfl,p,_,_,_,rfl,rfl,hp,rfl,?_⟩
   refine ⟨_,rfl,?_⟩
   exact q _ _ (Gz _ (by omega)) (Gq _ G) ⟨a / m,b,c,Zh,Int.ediv_nonneg W (by omega),Z,by omega⟩ (Kp.upd _ _ _)
 · refine ⟨_,rfl,p,_,_,_,rfl,rfl,SqL.of hp,rfl,_,_,rfl,rfl,?_⟩
   refine ⟨_,rfl,p,_,_,_,rfl,rfl,hp,rfl,?_⟩
   have B:upd H p (.lst [.int a,.int b,.int (c+1)]) p=some (.lst [.int a,.int b,.int (c+1)]):=Zh
   refine ⟨_,rfl,p,_,_,_,rfl,rfl,SqL.of B,rfl,_,rfl,p,_,_,_,rfl,rfl,SqL.of B,rfl,_,_,rfl,rfl,.inl ⟨by decide,by decide⟩,_,_,rfl,rfl,_,rfl,p,_,_,_,rfl,rfl,SqL.of B,rfl,_,_,rfl,rfl,_,_,rfl,rfl,.inr ⟨by omega,by omega⟩,_,_,rfl,rfl,(by show (0:Int) < _;decide),?_⟩
   generalize hO:((b+48271 * (c+1)) * (39373+(c+1))) % 2147483647=z
   have hO0:0<=z:=by rw [<- hO];exact Gz _ (by decide)
   refine ⟨_,rfl,_,rfl,p,_,_,_,rfl,rfl,SqL.of B,rfl,_,_,rfl,rfl,_,rfl,_,_,rfl,rfl,(by show (0:Int) < _;decide),_,_,rfl,rfl,_,_,rfl,rfl,.inr ?_,_,_,rfl,rfl,(by show (0:Int) < _;decide),?_⟩
   · have:=Gz z (show (40009:Int)≠0 by decide)
     have:=Gq z (show (0:Int) < 40009 by decide)
     exact ⟨by omega,by omega⟩
   generalize hW:((z+(c+1)) * (z % 40009+7)) % 2147483629=twice
   refine ⟨_,rfl,_,_,rfl,rfl,.inr ⟨by decide,by decide⟩,_,rfl,_,_,rfl,rfl,_,_,rfl,rfl,(by show (0:Int) < _;decide),_,_,rfl,rfl,⟨by decide,by decide⟩,_,rfl,_,_,rfl,rfl,G,?_⟩
   exact q _ _ (Gz _ (by omega)) (Gq _ G) ⟨a,b,c+1,B,W,by omega,by omega⟩ (Kp.upd _ _ _)
end
structure Txt (K:Qa)(mg:Str->Option Qc):Prop extends Yj mg where
 base:∃ t,mg "BASE"=some (.int 4 t)
 zero:∃ t,mg "BARE_NUMBER"=some (.int 0 t)
 bare:∃ a,mg "BARE"=some (.ref a)/\∀ H,SqT K H a [.str "bare"]
 figs:∃ a,mg "FIGURES"=some (.ref a)/\∀ H,SqT K H a [.int 0,.int 1,.int 2,.int 3]
section
variable {P:Qk}{w:Qs}{K:Qa}{mg:Str->Option Qc}{base:Heap}
def Wz (l:List Nat):Nat->Int
 | 0=>0
 | i+1=>Wz l i+((i:Int)+1) * (((l.getD i 0:Nat):Int) - 97+1)
inductive Wv (vs:List V)(H:Hp)(Q:VK)(w_3:XK):Prop
 | mk (x:Str):vs=[.str x]->x.length<=1000->(∀ H',Same H H'->Q (.int (Wz x.cps.toList x.length)) H')->Wv vs H Q w_3
inductive Wh (vs:List V)(H:Hp)(Q:VK)(w_3:XK):Prop
 | mk (n:Int) (k:Nat):vs=[.int n,.int k]->0<=n->k<=1000->Q (.int (n / 4 ^ k % 4)) H->Wh vs H Q w_3
theorem oa:(Qn "a").cps.getD 0 0=97:=by decide +kernel
theorem scM:Zo ["name","total","place","letter"] ["name"] (Zi s_mark):={}
theorem ZkY (F:Fun K "mark" "mark" s_mark f fd)(T:Txt K mg):FnOk P w K mg base ZI 1 f fd ["name"] Wv:=by
 refine F.ok scM (fun J A outer s H vs Q E hr h=>?_)
 obtain ⟨x,rfl,W,q⟩:=h
 refine' ⟨?t,?h,?r⟩
 case h =>
  conv=>arg 2;whnf
  with_reducible refine' Zf ?a1 (Zf ?a2 (Zg ?a3))
  case a1=>exact Zs (i:=1) scM.nd rfl (Qy rfl) Zc
  case a2=>exact Wr QU rfl (Zjd rfl T.enumerate (pv 0)) (WO rfl (Yp (ZW (i:=2) scM.nd rfl (Qy rfl)) (Yp (ZW (i:=3) scM.nd rfl (Qy rfl)) Wf))) (Zg (ZmN (i:=1) scM.nd rfl (Qy rfl) (Zp WN (pv 2) (Zp Yf (Zp YN (Zu Zdj rfl T.ord (by decide +kernel) (Zb (pv 3) Za)) (Zu Zdj rfl T.ord (by decide +kernel) (Zb ZM Za))) Zc)) Zml))
  case a3=>exact Zl (pv 1)
 try dsimp only [Yz,Cx.nox]
 refine zs3 ?_
 intro zD zS zN2 Y
 refine ⟨_,rfl,x,rfl,?_⟩
 refine Ziq (fun i σ H'=>∃ z B,σ=[some (.str x),some (.int (Wz x.cps.toList i)),z,B]/\Same H H'/\i<=x.cps.size) ⟨_,_,rfl,Same.refl H,Qx _⟩ ?_ ?_
 ·rintro i c t σ H1 I Z ⟨z,B,rfl,s1,hi⟩
  have G:i < x.cps.size:=(Tx.mp I).1
  have hz:x.cps.size<=1000:=W
  refine ⟨t,_,rfl,SqT.of Zh,rfl,_,_,rfl,_,_,rfl,rfl,?_⟩
  refine ⟨_,rfl,_,rfl,_,rfl,_,rfl,rfl,_,rfl,rfl,_,_,rfl,rfl,_,_,rfl,rfl,_,_,rfl,rfl,.inl ⟨by omega,by omega⟩,_,_,rfl,rfl,?_⟩
  have e:Wz x.cps.toList (i+1)=Wz x.cps.toList i+((i:Int)+1) * ((((⟨#[c]⟩:Str).cps.getD 0 0:Nat):Int) - (((Qn "a").cps.getD 0 0:Nat):Int)+1):=by
   rw [oa]
   show Wz x.cps.toList i+((i:Int)+1) * (((x.cps.toList.getD i 0:Nat):Int) - 97+1)=Wz x.cps.toList i+((i:Int)+1) * ((c:Int) - 97+1)
   have e1:x.cps.toList.getD i 0=c:=by rw [getD_eq_getElem?_getD,RC,I];rfl
   rw [e1]
  exact ⟨some (.int ((i:Int)+1)),some (.str ⟨#[c]⟩),by rw [e];rfl,s1.trans (Zv Z _),G⟩
 ·rintro σ H1 ⟨z,B,rfl,s1,_⟩
  exact ⟨_,rfl,q H1 s1⟩
theorem scDg:Zo ["number","level","below"] ["number","level"] (Zi s_digit):={}
theorem ZiF (F:Fun K "digit" "digit" s_digit f fd)(T:Txt K mg):FnOk P w K mg base ZI 1 f fd ["number","level"] Wh:=by
 refine F.ok scDg (fun B A outer s H vs Q E Y h=>?_)
 obtain ⟨n,k,rfl,hn,W,q⟩:=h
 obtain ⟨tb,z⟩:=T.base
 refine' ⟨?t,?h,?r⟩
 case h =>
  conv=>arg 2;whnf
  with_reducible refine' Zf ?a1 (Zg ?a2)
  case a1=>exact Wr QU rfl (YT rfl T.range (Zb (pv 1) Za)) (ZW (i:=2) scDg.nd rfl (Qy rfl)) (Zg (Zs (i:=0) scDg.nd rfl (Qy rfl) (Zp ZeU (pv 0) (Xy rfl z (v:=.int 4) ⟨_,rfl⟩))))
  case a2=>exact Zl (Zp XU (pv 0) (Xy rfl z (v:=.int 4) ⟨_,rfl⟩))
 try dsimp only [Yz,Cx.nox]
 refine zs2 ?_
 intro J Z G
 refine ⟨_,rfl,k,rfl,by omega,by omega,?_⟩
 have I:(k:Int).toNat=k:=by omega
 rw [I]
 refine WL (fun i σ H'=>∃ y,σ=[some (.int (n / 4 ^ i)),some (.int k),y]/\H'=H) ⟨_,by rw [Int.pow_zero,SZ];rfl,rfl⟩ ?_ ?_
 ·rintro i σ H1 hi ⟨y,rfl,rfl⟩
  have e:n / 4 ^ (i+1)=n / 4 ^ i / 4:=by rw [Int.pow_succ,<- Int.ediv_ediv_of_nonneg (Int.pow_nonneg (by decide))]
  exact ⟨_,rfl,_,_,rfl,rfl,⟨by decide,by decide⟩,some (.int (0+(i:Int))),by rw [e];rfl,rfl⟩
 ·rintro σ H1 ⟨y,rfl,rfl⟩
  exact ⟨_,rfl,_,_,rfl,rfl,(by show (0:Int) < 4;decide),q⟩
theorem nbf:decide (V.str (Qn "bare")=V.str (Qn "fork"))=false:=by decide +kernel
theorem nlf:decide (V.str (Qn "leaf")=V.str (Qn "fork"))=false:=by decide +kernel
theorem nbl:decide (V.str (Qn "bare")=V.str (Qn "leaf"))=false:=by decide +kernel
theorem nfl:decide (V.str (Qn "fork")=V.str (Qn "leaf"))=false:=by decide +kernel
theorem scPi:Zo ["node"] ["node"] (Zi s_parts_in):={}
theorem ZiM (F:Fun K "parts_in" "parts_in" s_parts_in f fd):FnOk P w K mg base ZI 1 f fd ["node"] (Ua K):=by
 refine F.ok scPi (fun B A outer s H vs Q E J h=>?_)
 obtain ⟨a,n,rfl,z,q⟩:=h
 refine ⟨_,Zg (Zl (XF (ZG ZY (Zk ZK (pv 0) Zc (fun _ _=>rfl)) ZM (ZA _)) (Zk ZK (pv 0) Zc (fun _ _=>rfl)) ZeV)),?_⟩
 cases n with
 | bare =>
  refine ⟨_,rfl,a,_,_,_,rfl,rfl,z,rfl,rfl,_,rfl,?_⟩
  rw [nbf]
  exact Zz fun p o hp I=>q p _ (Zv hp _) (.inl (.inr ⟨o,Zh⟩))
 | leaf m ps =>
  obtain ⟨t,e,_⟩:=z
  refine ⟨_,rfl,a,_,_,_,rfl,rfl,e,rfl,rfl,_,rfl,?_⟩
  rw [nlf]
  exact Zz fun p o hp I=>q p _ (Zv hp _) (.inl (.inr ⟨o,Zh⟩))
 | fork qs =>
  obtain ⟨t,e,G,_⟩:=z
  refine ⟨_,rfl,a,_,_,_,rfl,rfl,e,rfl,rfl,_,rfl,?_⟩
  rw [decide_eq_true rfl]
  exact ZF ⟨_,rfl,a,_,_,_,rfl,rfl,e,rfl,q t H (Same.refl H) G⟩
theorem scPr:Zo ["node"] ["node"] (Zi s_pairs_in):={}
theorem ZiL (F:Fun K "pairs_in" "pairs_in" s_pairs_in f fd):FnOk P w K mg base ZI 1 f fd ["node"] (Wi K):=by
 refine F.ok scPr (fun G A outer s H vs Q E J h=>?_)
 obtain ⟨a,n,rfl,B,q⟩:=h
 refine ⟨_,Zg (Zl (XF (ZG ZY (Zk ZK (pv 0) Zc (fun _ _=>rfl)) ZM (ZA _)) (Zk ZK (pv 0) Zc (fun _ _=>rfl)) ZeV)),?_⟩
 have nil:∀ p o,H p=none->o.dict=none->PairsAt (upd H p (.frz o (.tup []))) p []:=fun p o hp z=>⟨o,[],Zh,z,rfl,fun i a p e=>by simp at e⟩
 cases n with
 | bare =>
  refine ⟨_,rfl,a,_,_,_,rfl,rfl,B,rfl,rfl,_,rfl,?_⟩
  rw [nbl]
  exact Zz fun p o hp z=>q p _ (Zv hp _) (nil p o hp z)
 | fork qs =>
  obtain ⟨t,e,_⟩:=B
  refine ⟨_,rfl,a,_,_,_,rfl,rfl,e,rfl,rfl,_,rfl,?_⟩
  rw [nfl]
  exact Zz fun p o hp z=>q p _ (Zv hp _) (nil p o hp z)
 | leaf m ps =>
  obtain ⟨t,e,I⟩:=B
  refine ⟨_,rfl,a,_,_,_,rfl,rfl,e,rfl,rfl,_,rfl,?_⟩
  rw [decide_eq_true rfl]
  exact ZF ⟨_,rfl,a,_,_,_,rfl,rfl,e,rfl,q t H (Same.refl H) I⟩
theorem scHm:Zo ["node","number"] ["node","number"] (Zi s_has_mark):={}
theorem ZkS (F:Fun K "has_mark" "has_mark" s_has_mark f fd):FnOk P w K mg base ZI 1 f fd ["node","number"] (UM K):=by
 refine F.ok scHm (fun G A outer s H vs Q E J h=>?_)
 obtain ⟨a,n,m,rfl,B,q⟩:=h
 refine ⟨_,Zg (Zl (Xl (Yx ZY (Zk ZK (pv 0) Zc (fun _ _=>rfl)) ZM (ZA _)) (XW (Yx ZY (Zk ZK (pv 0) Zc (fun _ _=>rfl)) (pv 1) (ZA _))))),?_⟩
 cases n with
 | bare =>
  refine ⟨_,rfl,a,_,_,_,rfl,rfl,B,rfl,rfl,_,rfl,?_⟩
  rw [nbl]
  exact Zz q
 | fork qs =>
  obtain ⟨t,e,_⟩:=B
  refine ⟨_,rfl,a,_,_,_,rfl,rfl,e,rfl,rfl,_,rfl,?_⟩
  rw [nfl]
  exact Zz q
 | leaf m' ps =>
  obtain ⟨t,e,I⟩:=B
  refine ⟨_,rfl,a,_,_,_,rfl,rfl,e,rfl,rfl,_,rfl,?_⟩
  rw [decide_eq_true rfl]
  refine ZF ⟨_,rfl,a,_,_,_,rfl,rfl,e,rfl,_,rfl,rfl,?_⟩
  have:decide (V.int m'=V.int m)=decide (m'=m):=by
   by_cases z:m'=m
   ·subst z;rw [decide_eq_true rfl,decide_eq_true rfl]
   ·rw [decide_eq_false z,decide_eq_false (fun y=>z (by cases y;rfl))]
  rw [this]
  exact q
theorem scFo:Zo ["parts"] ["parts"] (Zi s_fork_of):={}
theorem Zhh (F:Fun K "fork_of" "fork_of" s_fork_of f fd)(T:Txt K mg):FnOk P w K mg base ZI 1 f fd ["parts"] (WE K):=by
 refine F.ok scFo (fun B A outer s H vs Q E W h=>?_)
 obtain ⟨l,qs,rfl,G,J,q⟩:=h
 refine ⟨_,Zg (Zl (Yt (Zb ZM (Zb (ZQ Xx rfl T.tuple (by decide +kernel) (Zb (pv 0) Za)) Za)))),?_⟩
 refine ⟨_,rfl,l,_,rfl,.inl ⟨SqL.of G,fun t I=>⟨(by show 2<=Qg;decide),fun a z=>?_⟩⟩⟩
 exact q a _ ((Zv I _).trans (Zv z _)) ⟨t,SqT.of Zh,SqT.of (Zv z _ _ _ Zh),J⟩
def pvl (H:Hp)(a:Addr):V:=match H a with
 | some (.tup [_,v])=>v
 | _=>.non
def ZbC (ps:List (Str×V)):Prop:=ps.Pairwise fun p q=>¬ (q.1.cps.toList < p.1.cps.toList)
theorem Zhm (h:PairT H ts ps)(o:Zfs (ps.map (·.1)) ts I):∃ G,G.Perm ps/\ZbC G/\PairT H I G:=by
 obtain ⟨zs,hp,e,hs⟩:=o
 have val:∀ (i:Nat) (a:Addr) (p:Str×V),ts[i]?=some a->ps[i]?=some p->pvl H a=p.2:=fun i a p e1 B=>by unfold pvl;rw [h.2 i a p e1 B]
 have Y:((ps.map (·.1)).zip ts).map (fun z=>(z.1,pvl H z.2))=ps:=by
  apply List.ext_getElem?
  intro i
  rw [getElem?_map]
  cases B:ps[i]? with
  | none =>
   have:((ps.map (·.1)).zip ts)[i]?=none:=by
    rw [List.getElem?_eq_none_iff] at B ⊢
    rw [Rv,length_map];omega
   rw [this];rfl
  | some p =>
   have hi:i < ps.length:=(Qj.mp B).1
   obtain ⟨a,ea⟩:∃ a,ts[i]?=some a:=⟨_,getElem?_eq_getElem (by rw [h.1];exact hi)⟩
   have:((ps.map (·.1)).zip ts)[i]?=some (p.1,a):=by
    rw [Gn]
    exact ⟨by rw [getElem?_map,B];rfl,ea⟩
   rw [this]
   show some (p.1,pvl H a)=some p
   rw [val i a p ea B]
 refine ⟨zs.map fun z=>(z.1,pvl H z.2),?_,?_,?_⟩
 ·have:=hp.map fun z:Str×Addr=>(z.1,pvl H z.2)
  rwa [Y] at this
 ·unfold ZbC;rw [Ph];exact hs
 ·refine ⟨by rw [e,length_map,length_map],fun i a p e1 B=>?_⟩
  rw [e,getElem?_map] at e1
  rw [getElem?_map] at B
  cases ez:zs[i]? with
  | none=>rw [ez] at e1;cases e1
  | some z =>
   rw [ez] at e1 B
   cases (show some z.2=some a from e1)
   cases (show some (z.1,pvl H z.2)=some p from B)
   have Z:=hp.mem_iff.mp (mem_of_getElem? ez)
   obtain ⟨j,W⟩:=Jw.mp Z
   rw [Gn] at W
   obtain ⟨h1,h2⟩:=W
   rw [getElem?_map] at h1
   cases e3:ps[j]? with
   | none=>rw [e3] at h1;cases h1
   | some pj =>
    rw [e3] at h1
    have J:pj.1=z.1:=by simpa using h1
    have:=h.2 j z.2 pj h2 e3
    rw [this,val j z.2 pj h2 e3,J]
def ZC (x:Str):Int:=Wz x.cps.toList x.length
def XL:Str:=(("leaf_of":Str)++".<locals>.")++"<lambda>"
inductive UO (K:Qa)(Pl:Addr)(lpos:Pos)(vs:List V)(H:Hp)(Q:VK)(w_3:XK):Prop
 | mk (l:Addr) (ts:List Addr) (ps:List (Str×V)):vs=[.ref l]->H l=some (.lst (ts.map V.ref))->PairT H ts ps->ps≠[]->ps.length < 64->(∀ p∈ps,p.1.length<=1000)->LamAt H Pl lpos XL->(∀ (a:Addr) (H':Hp) (p1:Str×V) (pr:List (Str×V)),Grown Pl H H'->LamAt H' Pl lpos XL->(p1::pr).Perm ps->ZbC (p1::pr)->NodeAt K H' a (.leaf (ZC p1.1) (p1::pr))->Q (.ref a) H')->UO K Pl lpos vs H Q w_3
theorem Grown.trans' (a:Grown Pl H H1)(b:Same H1 H2):Grown Pl H H2:=fun x o n h=>b _ _ (a x o n h)
theorem LamAt.same (h:LamAt H Pl lpos q)(s:Same H H'):LamAt H' Pl lpos q:=by
 rcases h with h | ⟨c,h,h2⟩
 ·exact .inl (s _ _ h)
 ·exact .inr ⟨c,s _ _ h,s _ _ h2⟩
theorem scLf:Zo ["pairs","rising","first_name"] ["pairs"] (Zi s_leaf_of):={}
def Zmr:Stmt->Pos
 | .Assign _ (.Call _ _ [⟨_,.Lambda _ _ _ p,_⟩] _) _=>p
 | _=>⟨0,0,0,0⟩
def YM:Pos:=Zmr ((Wd s_leaf_of).getD 0 (.Pass ⟨0,0,0,0⟩))
theorem ZkW (F:FunC K "leaf_of" "leaf_of" s_leaf_of f fd c Pl)(T:Txt K mg)(Y:UP base mg)(DM:Def P w K mg base 1 "mark" ["name"] Wv):FnOk P w K mg base ZI 2 f fd ["pairs"] (UO K Pl YM):=by
 refine F.ok scLf (fun A outer s H vs Q E hr h=>?_)
 obtain ⟨l,ts,ps,rfl,el,B,hne,Z,hnl,hL,q⟩:=h
 refine' ⟨?t,?h,?r⟩
 case h =>
  conv=>arg 2;whnf
  with_reducible refine' Zf ?a1 (Zf ?a2 (Zg ?a3))
  case a1=>exact Zs (i:=1) scLf.nd rfl (Qy rfl) (Zjb (c:=c) (Pl:=Pl) rfl T.sorted (pv 0) hr rfl F.hd Y)
  case a2=>exact Zs (i:=2) scLf.nd rfl (Qy rfl) (Zk ZK (Zk Zt (pv 1) Zc (fun _ _=>rfl)) Zc (fun _ _=>rfl))
  case a3=>exact Zl (Yt (Zb ZM (Zb (Zy DM hr (Zb (pv 2) Za)) (Zb (ZQ Zaq rfl T.tuple (by decide +kernel) (Zb (pv 1) Za)) Za))))
 try dsimp only [Yz,Cx.nox]
 refine zs3 ?_
 intro zD zS zN2 zN1
 refine ⟨_,rfl,l,ts,ps.map (·.1),rfl,el,by rw [B.1];exact Z,by rw [length_map,B.1],fun i t k e1 W=>?_,hL,fun H2 r ts' gr hL2 hr2 hT=>?_⟩
 ·rw [getElem?_map] at W
  cases e3:ps[i]? with
  | none=>rw [e3] at W;cases W
  | some p =>
   rw [e3] at W
   have e4:p.1=k:=by simpa using W
   rw [<- e4]
   exact ⟨_,B.2 i t p e1 e3⟩
 obtain ⟨ps',z,J,G⟩:=Zhm B hT
 obtain ⟨tb,htb⟩:=hL.tbl
 have tf2:TF H H2:=gr.tf htb
 have I:=G.tf tf2
 cases ps' with
 | nil=>exact absurd (NF z).symm hne
 | cons p1 pr =>
  cases ts' with
  | nil=>have:=G.1;simp at this
  | cons t1 tr =>
   have e1:=I.2 0 t1 p1 rfl rfl
   have s3:=Zv hr2 (.lst ((t1::tr).map V.ref))
   have hn1:p1.1.length<=1000:=hnl p1 (z.mem_iff.mp mem_cons_self)
   refine ⟨_,rfl,r,_,_,_,rfl,rfl,SqL.of Zh,(show YR ((t1::tr).map V.ref) ((0:Nat):Int)=some (V.ref t1) from Zm rfl),t1,_,_,_,rfl,rfl,SqT.of (s3 _ _ e1),rfl,?_⟩
   refine ⟨_,rfl,p1.1,rfl,hn1,fun H4 s4=>⟨_,rfl,r,_,rfl,SqL.of (s4 _ _ Zh),fun t o ht hd=>⟨(by show 3<=Qg;decide),fun a ha=>?_⟩⟩⟩
   have s5:=Zv ht (.frz o (.tup ((t1::tr).map V.ref)))
   have s6:=Zv ha (.tup [.str "leaf",.int (ZC p1.1),.ref t])
   have S:=((s3.trans s4).trans s5).trans s6
   refine q a _ p1 pr (Grown.trans' gr S) (LamAt.same hL2 S) z J ⟨t,SqT.of Zh,o,t1::tr,s6 _ _ Zh,hd,I.tf S.tf⟩
end
structure XD (K:Qa)(C:Addr):Prop where
 cl:Cls K C
 nN:NoAttr K C "nodes"
 nT:NoAttr K C "tables"
section
variable {P:Qk}{w:Qs}{K:Qa}{mg:Str->Option Qc}{base:Heap}{C:Addr}
inductive Zea (K:Qa)(C:Addr)(vs:List V)(H:Hp)(Q:VK)(w_3:XK):Prop
 | mk (p dx:Addr):vs=[.ref p]->H p=some (.ins C dx [])->(∀ (ln dt:Addr) (H':Hp),H ln=none->H dt=none->StoreAt K C p ln dt H' [.bare] [(QY 0,.bl true)]->Kq [p] H H'->Q .non H')->Zea K C vs H Q w_3
theorem scIn:Zo ["self"] ["self"] (Zi c_Store___init__):={}
theorem ZkT (F:Fun K "__init__" "Store.__init__" c_Store___init__ f fd)(T:Txt K mg)(TC:XD K C):FnOk P w K mg base ZI 1 f fd ["self"] (Zea K C):=by
 refine F.ok scIn (fun cdv A outer s H vs Q E hr h=>?_)
 obtain ⟨p,dx,rfl,hp,q⟩:=h
 obtain ⟨ab,hb,hbt⟩:=T.bare
 obtain ⟨tz,hz⟩:=T.zero
 refine ⟨_,Zf (Ug (pv 0) (ZT (Zb (Xy rfl hb (v:=.ref ab) rfl) Za)) rfl) (Zg (Ug (pv 0) (Zli (Zjw (Xy rfl hz (v:=.int 0) ⟨_,rfl⟩) XY Zlo) rfl rfl (by simp) (by decide)) rfl)),?_⟩
 refine ⟨(by show 1<=Qg;decide),fun ln Y=>?_⟩
 have J:p≠ln:=Zx hp Y
 refine ⟨_,rfl,p,C,dx,[],rfl,(by rw [Zj J];exact hp),TC.cl,TC.nN,(by show 0 < 1000;decide),?_⟩
 intro dt B
 have I:p≠dt:=fun z=>by rw [<- z,Zh] at B;cases B
 have W:ln≠dt:=fun z=>by rw [<- z,Zj J.symm,Zh] at B;cases B
 have G:H dt=none:=by rw [Zj I.symm,Zj W.symm] at B;exact B
 refine ⟨Zh,[(QY 0,.bl true)],rfl,by decide,_,rfl,p,C,dx,_,rfl,(by rw [Zj I,Zj I,Zh]),TC.cl,TC.nT,(by show 1 < 1000;decide),?_⟩
 refine q ln dt _ Y G ⟨⟨dx,Zh⟩,⟨[ab],?_,rfl,fun i a n e1 e2=>?_⟩,?_⟩ fun b o nb e=>?_
 ·rw [Zj J.symm,Zj W,Zj W,Zj J.symm,Zh];rfl
 ·cases i with
  | zero =>
   cases (show some ab=some a from e1)
   cases (show some Nd.bare=some n from e2)
   exact hbt _
  | succ i=>simp at e1
 ·rw [Zj I.symm,Zh];rfl
 ·have Z:b≠p:=fun z=>nb (by simp [z])
  rw [Zj Z,Zj (Zx e G),Zj (Zx e G),Zj Z,Zj (Zx e Y)];exact e
inductive UN (K:Qa)(C:Addr)(vs:List V)(H:Hp)(Q:VK)(w_3:XK):Prop
 | mk (st ln dt a:Addr) (nds:List Nd) (tabs:List (Zn×V)) (n:Nd):vs=[.ref st,.ref a]->StoreAt K C st ln dt H nds tabs->NodeAt K H a n->nds.length<=100000->(∀ H',StoreAt K C st ln dt H' (nds++[n]) tabs->Kq [ln] H H'->TF H H'->Q (.int nds.length) H')->UN K C vs H Q w_3
theorem scKe:Zo ["self","node"] ["self","node"] (Zi c_Store_keep):={}
theorem ZkU (F:Fun K "keep" "Store.keep" c_Store_keep f fd)(T:Txt K mg)(Z:XD K C):FnOk P w K mg base ZI 1 f fd ["self","node"] (UN K C):=by
 refine F.ok scKe (fun cdv A outer s H vs Q E hr h=>?_)
 obtain ⟨st,B,dt,a,nds,tabs,n,rfl,⟨⟨dx,ob⟩,⟨as,Y,hl,hn⟩,tb⟩,hna,hsz,q⟩:=h
 refine ⟨_,Zf (Yy (Xs QG QO QP YS (ZX (pv 0) rfl) (Zb (pv 1) Za))) (Zg (Zl (Zp YN (Zu ZH rfl T.len QC (Zb (ZX (pv 0) rfl) Za)) Zc))),?_⟩
 have e1:(as.map V.ref).length < sizeLine:=by rw [length_map,hl];exact QW hsz (by decide)
 refine ⟨_,rfl,st,C,dx,_,_,rfl,ob,Z.cl,Z.nN,XQ B dt,.inl ⟨rfl,_,SqL.of Y⟩,_,rfl,B,_,_,rfl,rfl,Y,e1,?_⟩
 have J:st≠B:=Zbj ob Y (by intro z;cases z)
 have ndl:dt≠B:=Zbj tb Y (by intro z;cases z)
 refine ⟨_,rfl,st,C,dx,_,_,rfl,(by rw [Zj J];exact ob),Z.cl,Z.nN,XQ B dt,B,_,rfl,.inl (SqL.of Zh),_,_,rfl,rfl,?_⟩
 have tf:=Zek (o:=.lst (as.map V.ref++[.ref a])) Y
 have e2:((((as.map V.ref++[V.ref a]).length:Nat):Int) - 1)=(nds.length:Int):=by rw [length_append,length_map,hl];show ((nds.length+1:Nat):Int) - 1=_;omega
 have I:Q (.int (nds.length:Int)) (upd H B (.lst (as.map V.ref++[.ref a]))):=by
  refine q _ ⟨⟨dx,by rw [Zj J];exact ob⟩,⟨as++[a],by rw [map_append];exact Zh,by rw [length_append,length_append,hl];rfl,fun i b m G W=>?_⟩,by rw [Zj ndl];exact tb⟩ Zbg tf
  by_cases hi:i < as.length
  ·rw [getElem?_append_left hi] at G
   rw [getElem?_append_left (by rw [<- hl];exact hi)] at W
   exact (hn i b m G W).tf tf
  ·rw [getElem?_append_right (by omega)] at G
   rw [getElem?_append_right (by omega)] at W
   have h0:i - as.length=0:=by
    cases z:i - as.length with
    | zero=>rfl
    | succ j=>rw [z] at G;simp at G
   rw [h0] at G
   rw [show i - nds.length=0 by omega] at W
   cases (show some a=some b from G)
   cases (show some n=some m from W)
   exact hna.tf tf
 rw [<- e2] at I
 exact I
inductive ZcU (K:Qa)(C:Addr)(vs:List V)(H:Hp)(Q:VK)(w_3:XK):Prop
 | mk (st ln dt:Addr) (nds:List Nd) (tabs:List (Zn×V)) (n:Int):vs=[.ref st,.int n]->StoreAt K C st ln dt H nds tabs->tabs.length<=100000->(∀ H',StoreAt K C st ln dt H' nds (YJ tabs (QY n) (.bl true))->Kq [dt] H H'->TF H H'->Q (.int n) H')->ZcU K C vs H Q w_3
theorem scAs:Zo ["self","number"] ["self","number"] (Zi c_Store_as_table):={}
theorem Zmv (F:Fun K "as_table" "Store.as_table" c_Store_as_table f fd)(Z:XD K C):FnOk P w K mg base ZI 1 f fd ["self","number"] (ZcU K C):=by
 refine F.ok scAs (fun cdv A outer s H vs Q E hr h=>?_)
 obtain ⟨st,Y,G,nds,B,n,rfl,⟨⟨dx,J⟩,⟨as,nl,hl,hn⟩,tb⟩,hsz,q⟩:=h
 refine ⟨_,Zf (ZbP (VQ hr) (ZX (pv 0) rfl) (pv 1) XY rfl) (Zg (Zl (pv 1))),?_⟩
 refine ⟨_,rfl,st,C,dx,_,_,rfl,J,Z.cl,Z.nT,ZgJ Y G,_,rfl,G,_,rfl,DPut.k (k:=QY n) tb (QW hsz (by decide)),_,rfl,?_⟩
 have W:st≠G:=Zbj J tb (by intro z;cases z)
 have I:Y≠G:=Zbj nl tb (by intro z;cases z)
 have tf:=ZlB (o:=.dK (YJ B (QY n) (.bl true))) tb
 exact q _ ⟨⟨dx,by rw [Zj W];exact J⟩,⟨as,by rw [Zj I];exact nl,hl,fun i a m e1 e2=>(hn i a m e1 e2).tf tf⟩,Zh⟩ Zbg tf
inductive ZbU (K:Qa)(C:Addr)(vs:List V)(H:Hp)(Q:VK)(w_3:XK):Prop
 | mk (st ln dt:Addr) (nds:List Nd) (tabs:List (Zn×V)) (n:Int):vs=[.ref st,.int n]->StoreAt K C st ln dt H nds tabs->(ZN tabs (QY n)).isSome=true->Q .non H->ZbU K C vs H Q w_3
theorem scCk:Zo ["self","table"] ["self","table"] (Zi c_Store_check_table):={}
theorem ZiE (F:Fun K "check_table" "Store.check_table" c_Store_check_table f fd)(z:XD K C):FnOk P w K mg base ZI 1 f fd ["self","table"] (ZbU K C):=by
 refine F.ok scCk (fun J A outer s H vs Q E W h=>?_)
 obtain ⟨st,I,G,nds,B,n,rfl,⟨⟨dx,Y⟩,⟨as,nl,hl,hn⟩,tb⟩,Z,q⟩:=h
 refine ⟨_,Zg (ZZ (UI (Zho (VQ W) (pv 1) (ZX (pv 0) rfl))) (Zg Zkm) ZS),?_⟩
 refine ⟨_,rfl,_,rfl,st,C,dx,_,_,rfl,Y,z.cl,z.nT,ZgJ I G,G,_,rfl,DGet.k (k:=QY n) tb,_,rfl,?_⟩
 rw [Z]
 exact Zz q
end
def Ya (n:Int)(k:Nat):Nat:=(n / 4 ^ k % 4).toNat
theorem Wy (n:Int)(k:Nat):(Ya n k:Int)=n / 4 ^ k % 4:=Int.toNat_of_nonneg (Gz _ (by decide))
theorem Ud (n:Int)(k:Nat):Ya n k < 4:=by
 have h1:=Wy n k
 have h2:=Gq (n / 4 ^ k) (show (0:Int) < 4 by decide)
 omega
def Xv (nds:List Nd)(m:Int):Nat->Nat->Nat->Option (List Nat)
 | 0,_,_=>none
 | f+1,lev,num=>match nds[num]? with
  | none=>none
  | some (.fork qs)=>(qs[Ya m lev]?).bind fun q=>(Xv nds m f (lev+1) q).map (num::·)
  | some _=>some [num]
def iN (n:Nat):V:=.int (n:Int)
section
variable {P:Qk}{w:Qs}{K:Qa}{mg:Str->Option Qc}{base:Heap}{C:Addr}
theorem _root_.L2.StoreAt.node {st B I:Addr}{H:Hp}{nds:List Nd}{z:List (Zn×V)}(S:StoreAt K C st B I H nds z){i:Nat}{n:Nd}(h:nds[i]?=some n):∃(as:List Addr)(a:Addr),H B=some (.lst (as.map V.ref))/\as[i]?=some a/\NodeAt K H a n:=by
 obtain ⟨_,⟨as,e,l,G⟩,_⟩:=S
 have hi:i < as.length:=by rw [l];exact (Qj.mp h).1
 exact ⟨as,as[i],e,getElem?_eq_getElem hi,G i _ n (getElem?_eq_getElem hi) h⟩
inductive Zgm (K:Qa)(C:Addr)(vs:List V)(H:Hp)(Q:VK)(w_3:XK):Prop
 | mk (st ln dt:Addr) (nds:List Nd) (tabs:List (Zn×V)) (t:Nat) (x:Str) (f:Nat) (ws:List Nat):vs=[.ref st,iN t,.str x]->StoreAt K C st ln dt H nds tabs->(ZN tabs (QY (t:Int))).isSome=true->x.length<=1000->0<=ZC x->f<=1000->Xv nds (ZC x) f 0 t=some ws->(∀ r H',H r=none->Same H H'->H' r=some (.lst (ws.map iN))->Q (.ref r) H')->Zgm K C vs H Q w_3
theorem scWa:Zo ["self","table","name","told","parts","part"] ["self","table","name"] (Zi c_Store_way):={}
theorem ZmD (F:Fun K "way" "Store.way" c_Store_way f fd)(T:Txt K mg)(TC:XD K C)(DC:DefM P w K mg base 1 C "check_table" ["self","table"] (ZbU K C))(DP:Def P w K mg base 1 "parts_in" ["node"] (Ua K))(DM:Def P w K mg base 1 "mark" ["name"] Wv)(DG:Def P w K mg base 1 "digit" ["number","level"] Wh):FnOk P w K mg base ZI 2 f fd ["self","table","name"] (Zgm K C):=by
 refine F.ok scWa (fun cdv A outer s H vs Q E hr h=>?_)
 obtain ⟨st,ln,dt,nds,tabs,t,x,fu,ws,rfl,S,htab,hx,hm,hfu,J,q⟩:=h
 refine' ⟨?t,?h,?r⟩
 case h =>
  conv=>arg 2;whnf
  with_reducible refine' Zf ?a1 (Zf ?a2 (Zf ?a3 (Zf (Vk ?w0 ?w1 (Zf ?b1 (Zf ?b2 (Zg ?b3)))) (Zg ?a5))))
  case a1=>exact Yy (Yo DC TC.cl hr (pv 0) (Zb (pv 1) Za))
  case a2=>exact Zs (i:=3) scWa.nd rfl (Qy rfl) (ZT (Zb (pv 1) Za))
  case a3=>exact Zs (i:=4) scWa.nd rfl (Qy rfl) (Zy DP hr (Zb (Zk Zt (ZX (pv 0) rfl) (pv 1) (fun _ _=>rfl)) Za))
  case w0=>exact QU
  case w1=>exact Vl (pv 4) (fun _=>rfl)
  case b1=>exact Zs (i:=5) scWa.nd rfl (Qy rfl) (Zk ZK (pv 4) (Zy DG hr (Zb (Zy DM hr (Zb (pv 2) Za)) (Zb (Zp YN (Zu ZH rfl T.len QC (Zb (pv 3) Za)) Zc) Za))) (fun _ _=>rfl))
  case b2=>exact Yy (Xs QG QO QP YS (pv 3) (Zb (pv 5) Za))
  case b3=>exact Zs (i:=4) scWa.nd rfl (Qy rfl) (Zy DP hr (Zb (Zk Zt (ZX (pv 0) rfl) (pv 5) (fun _ _=>rfl)) Za))
  case a5=>exact Zl (pv 3)
 try dsimp only [Yz,Cx.nox]
 refine zs5 ?_
 intro zD zS zN4 zN3 zN2 zN1
 obtain ⟨dx,ob⟩:=S.ob
 refine ⟨_,rfl,st,dx,_,rfl,ob,Yb ln dt (by decide +kernel) (by decide +kernel),_,rfl,st,ln,dt,nds,tabs,t,rfl,S,htab,_,rfl,(by show 1<=Qg;decide),fun l hl=>?_⟩
 obtain ⟨n,hn⟩:∃ n,nds[t]?=some n:=by
  cases fu with
  | zero=>cases J
  | succ fu =>
   cases e:nds[t]? with
   | none=>unfold Xv at J;rw [e] at J;cases J
   | some n=>exact ⟨n,rfl⟩
 have s1:=Zv hl (.lst [iN t])
 have S1:=S.keep s1
 obtain ⟨as,a,nl,ha,hna⟩:=S1.node hn
 obtain ⟨dx1,ob1⟩:=S1.ob
 refine ⟨_,rfl,st,C,dx1,_,_,rfl,ob1,TC.cl,TC.nN,XQ ln dt,_,rfl,ln,_,_,_,rfl,rfl,SqL.of nl,Zm (by rw [getElem?_map,ha];rfl),a,n,rfl,hna,fun pt H2 s2 hpt=>?_⟩
 refine ⟨fun W σ H'=>∃ (B wr:List Nat) (G:Nat) (n:Nd) (pt:Addr) (y:Option V),σ=[some (.ref st),some (iN t),some (.str x),some (.ref l),some (.ref pt),y]/\Same H H'/\H' l=some (.lst ((B++[G]).map iN))/\nds[G]?=some n/\SqT K H' pt (n.parts.map iN)/\Xv nds (ZC x) W B.length G=some wr/\ws=B++wr/\W+B.length<=1000,
  ⟨fu,[],ws,t,n,pt,_,rfl,s1.trans s2,s2 _ _ Zh,hn,hpt,J,rfl,by simpa using hfu⟩,?_⟩
 rintro W σ H3 ⟨B,wr,G,n,pt,y,rfl,s3,Y,hn3,hpt3,I,rfl,hfl⟩
 refine ⟨_,rfl,_,.inr (.inl ⟨_,hpt3,rfl⟩),?_⟩
 have stop:n.parts=[]->Xv nds (ZC x) W B.length G=some [G]:=fun z=>by
  cases W with
  | zero=>cases I
  | succ W =>
   unfold Xv at I ⊢
   rw [hn3] at I ⊢
   cases n with
   | bare=>rfl
   | leaf m ps=>rfl
   | fork qs =>
    have z':qs=[]:=z
    subst z'
    simp at I
 by_cases hz:n.parts=[]
 ·rw [hz]
  refine Zz ⟨_,rfl,?_⟩
  have e:=stop hz
  rw [I] at e
  cases e
  exact q l H3 hl s3 Y
 ·have hk : (!(n.parts.map iN).isEmpty)=true:=by
   cases e:n.parts with
   | nil=>exact absurd e hz
   | cons _ _=>rfl
  rw [hk]
  cases n with
  | bare=>exact absurd rfl hz
  | leaf m ps=>exact absurd rfl hz
  | fork qs =>
   cases W with
   | zero=>cases I
   | succ W =>
    unfold Xv at I
    rw [hn3] at I
    cases eq1:qs[Ya (ZC x) B.length]? with
    | none=>simp [eq1] at I
    | some q1 =>
     have Z:(Xv nds (ZC x) W (B.length+1) q1).map (G::·)=some wr:=by simpa [eq1] using I
     cases eq2:Xv nds (ZC x) W (B.length+1) q1 with
     | none=>rw [eq2] at Z;cases Z
     | some wr' =>
      rw [eq2] at Z
      have ewr:G::wr'=wr:=by simpa using Z
      obtain ⟨n',hn'⟩:∃ n',nds[q1]?=some n':=by
       cases W with
       | zero=>cases eq2
       | succ W =>
        cases e:nds[q1]? with
        | none=>unfold Xv at eq2;rw [e] at eq2;cases eq2
        | some n=>exact ⟨n,rfl⟩
      have e2:((((B++[G]).map iN).length:Nat):Int) - 1=(B.length:Int):=by rw [length_map,length_append];show ((B.length+1:Nat):Int) - 1=_;omega
      have hat:YR (qs.map iN) (ZC x / 4 ^ B.length % 4)=some (iN q1):=by rw [<- Wy];exact Zm (by rw [getElem?_map,eq1];rfl)
      refine ZF ⟨_,fun σ' H' h=>⟨W,Sz _,h⟩,_,rfl,_,rfl,x,rfl,hx,fun H4 s4=>?_⟩
      refine ⟨_,rfl,l,_,rfl,.inl (SqL.of (s4 _ _ Y)),_,_,rfl,rfl,ZC x,B.length,congrArg (fun z=>[V.int (ZC x),V.int z]) e2,hm,by omega,pt,_,_,_,rfl,rfl,hpt3.tf s4.tf,hat,?_⟩
      refine ⟨_,rfl,.inl ⟨rfl,_,SqL.of (s4 _ _ Y)⟩,_,rfl,l,_,_,rfl,rfl,s4 _ _ Y,(by rw [length_map,length_append];show B.length+1 < Qg;exact QW (show B.length+1<=1001 by omega) (by decide)),?_⟩
      have s5:Same H (upd H4 l (.lst ((B++[G]).map iN++[iN q1]))):=fun b o e=>by rw [Zj (Zx e hl)];exact s4 _ _ (s3 _ _ e)
      have S5:=S.keep s5
      obtain ⟨as5,a5,nl5,ha5,hna5⟩:=S5.node hn'
      obtain ⟨dx5,ob5⟩:=S5.ob
      refine ⟨_,rfl,st,C,dx5,_,_,rfl,ob5,TC.cl,TC.nN,XQ ln dt,_,rfl,ln,_,_,_,rfl,rfl,SqL.of nl5,Zm (by rw [getElem?_map,ha5];rfl),a5,n',rfl,hna5,fun pt6 H6 s6 hpt6=>?_⟩
      refine ⟨B++[G],wr',q1,n',pt6,_,rfl,s5.trans s6,?_,hn',hpt6,?_,?_,?_⟩
      ·rw [map_append];exact s6 _ _ Zh
      ·rw [length_append];exact eq2
      ·rw [<- ewr,Jx];rfl
      ·rw [length_append];show W+(B.length+1)<=1000;omega
def lk (ps:List (Str×V))(x:Str):Option V:=ZN (ps.map fun p=>((QH p.1:Zn),p.2)) (QH x)
inductive Vo (K:Qa)(C:Addr)(vs:List V)(H:Hp)(Q:VK)(w_3:XK):Prop
 | mk (st ln dt:Addr) (nds:List Nd) (tabs:List (Zn×V)) (t:Nat) (x:Str) (f:Nat) (ws:List Nat) (e:Nat) (n:Nd):vs=[.ref st,iN t,.str x]->StoreAt K C st ln dt H nds tabs->(ZN tabs (QY (t:Int))).isSome=true->x.length<=1000->0<=ZC x->f<=1000->Xv nds (ZC x) f 0 t=some (ws++[e])->nds[e]?=some n->n.pairs.length<=1000->(n.pairs.map (·.1)).Nodup->(∀ H',Same H H'->Q ((lk n.pairs x).getD .non) H')->Vo K C vs H Q w_3
theorem scLo:Zo ["self","table","name","end"] ["self","table","name"] (Zi c_Store_looked):={}
theorem Zhi (F:Fun K "looked" "Store.looked" c_Store_looked f fd)(T:Txt K mg)(Y:XD K C)(DW:DefM P w K mg base 2 C "way" ["self","table","name"] (Zgm K C))(DR:Def P w K mg base 1 "pairs_in" ["node"] (Wi K)):FnOk P w K mg base ZI 3 f fd ["self","table","name"] (Vo K C):=by
 refine F.ok scLo (fun cdv A outer s H vs Q E hr h=>?_)
 obtain ⟨st,J,Z,nds,G,t,x,fu,ws,e,n,rfl,S,B,hx,hm,hfu,z,hn,hsz,hnd,q⟩:=h
 refine' ⟨?t,?h,?r⟩
 case h =>
  conv=>arg 2;whnf
  with_reducible refine' Zf ?a1 (Zg ?a2)
  case a1=>exact Zs (i:=3) scLo.nd rfl (Qy rfl) (Zk Zt (Yo DW Y.cl hr (pv 0) (Zb (pv 1) (Zb (pv 2) Za))) (WV Ww Zc) (fun _ _=>rfl))
  case a2=>exact Zl (ZdN (VQ hr) (ZQ (Ul rfl) rfl T.dict (by decide +kernel) (Zb (Zy DR (hr.mono (by decide)) (Zb (Zk Zt (ZX (pv 0) rfl) (pv 3) (fun _ _=>rfl)) Za)) Za)) (pv 2) ⟨rfl,rfl,rfl,rfl⟩)
 try dsimp only [Yz,Cx.nox]
 refine zs2 ?_
 intro zD zS zN1
 obtain ⟨dx,ob⟩:=S.ob
 refine ⟨_,rfl,st,dx,_,rfl,ob,Yb J Z (by decide +kernel) (by decide +kernel),_,rfl,_,rfl,st,J,Z,nds,G,t,x,fu,_,rfl,S,B,hx,hm,hfu,z,fun r H1 hr1 s1 el=>?_⟩
 refine ⟨_,rfl,r,_,_,iN e,rfl,rfl,SqL.of el,(by rw [map_append];exact US _ _),?_⟩
 have S1:=S.keep s1
 obtain ⟨as,a,nl,ha,hna⟩:=S1.node hn
 obtain ⟨dx1,ob1⟩:=S1.ob
 refine ⟨_,rfl,st,C,dx1,_,_,rfl,ob1,Y.cl,Y.nN,XQ J Z,_,rfl,J,_,_,_,rfl,rfl,SqL.of nl,Zm (by rw [getElem?_map,ha];rfl),a,n,rfl,hna,fun pt H2 s2 hpt=>?_⟩
 obtain ⟨o,ts,W,hod,I,hp⟩:=hpt
 refine ⟨pt,ts,n.pairs,rfl,⟨o,W,hod⟩,I,hsz,hp,hnd,fun d hd=>⟨d,rfl,.inl ⟨_,.inl Zh⟩,_,rfl,_,DGet.k (k:=QH x) Zh,?_⟩⟩
 exact q _ ((s1.trans s2).trans (Zv hd _))
end
def Xr (num lev:Nat):Nd->List Nat
 | .fork qs=>qs
 | .leaf m _=>[0,1,2,3].map fun g=>if g=Ya m lev then num else 0
 | .bare=>[]
def Zdb:Nd->Prop
 | .leaf m ps=>∃ p1 pr,ps=p1::pr/\ZC p1.1=m/\p1.1.length<=1000/\0<=m
 | _=>True
section
variable {P:Qk}{w:Qs}{K:Qa}{mg:Str->Option Qc}{base:Heap}{C:Addr}
inductive Zgg (K:Qa)(C:Addr)(vs:List V)(H:Hp)(Q:VK)(w_3:XK):Prop
 | mk (st ln dt:Addr) (nds:List Nd) (tabs:List (Zn×V)) (num lev:Nat) (n:Nd):vs=[.ref st,iN num,iN lev]->StoreAt K C st ln dt H nds tabs->nds[num]?=some n->n≠.bare->Zdb n->lev<=1000->(∀ r H',H r=none->Same H H'->H' r=some (.lst ((Xr num lev n).map iN))->Q (.ref r) H')->Zgg K C vs H Q w_3
abbrev nFp:List Str:=["self","number","level","node","first_name","at"]
theorem scFp:Zo nFp ["self","number","level"] (Zi c_Store_fork_parts):={}
theorem Znz (F:Fun K "fork_parts" "Store.fork_parts" c_Store_fork_parts f fd)(T:Txt K mg)(TC:XD K C)(DP:Def P w K mg base 1 "parts_in" ["node"] (Ua K))(DR:Def P w K mg base 1 "pairs_in" ["node"] (Wi K))(DM:Def P w K mg base 1 "mark" ["name"] Wv)(DG:Def P w K mg base 1 "digit" ["number","level"] Wh):FnOk P w K mg base ZI 2 f fd ["self","number","level"] (Zgg K C):=by
 refine F.ok scFp (fun cdv A outer s H vs Q E hr h=>?_)
 obtain ⟨st,ln,dt,nds,tabs,G,B,n,rfl,S,hn,hnb,hok,hlev,q⟩:=h
 obtain ⟨tz,hz⟩:=T.zero
 obtain ⟨af,hf,hft⟩:=T.figs
 refine' ⟨?t,?h,?r⟩
 case h =>
  conv=>arg 2;whnf
  with_reducible refine' Zf ?a1 (Zf ?a2 (Zf ?a3 (Zf ?a4 (Zg ?a5))))
  case a1=>exact Zs (i:=3) scFp.nd rfl (Qy rfl) (Zk Zt (ZX (pv 0) rfl) (pv 1) (fun _ _=>rfl))
  case a2=>exact ZZ (Vl (Zy DP hr (Zb (pv 3) Za)) (fun _=>rfl)) (Zg (Zl (ZQ Xj rfl T.list (by decide +kernel) (Zb (Zy DP hr (Zb (pv 3) Za)) Za)))) ZS
  case a3=>exact Zs (i:=4) scFp.nd rfl (Qy rfl) (Zk ZK (Zk ZK (Zy DR hr (Zb (pv 3) Za)) Zc (fun _ _=>rfl)) Zc (fun _ _=>rfl))
  case a4=>exact Zs (i:=5) scFp.nd rfl (Pr rfl) (Zy DG hr (Zb (Zy DM hr (Zb (pv 4) Za)) (Zb (pv 2) Za)))
  case a5=>exact Zl (We (CompOk.of nFp c_Store_fork_parts rfl rfl (by decide +kernel)) rfl (Zbo (Xy rfl hf (v:=.ref af) rfl)) (fun _ _ _ _ _=>XF (ZG ZY (pv 6) (pv 5) (ZA _)) (pv 1) (Xy rfl hz (v:=.int 0) ⟨_,rfl⟩)))
 try dsimp only [Yz,Cx.nox]
 refine zs5 ?_
 intro zD zS zN4 zN3 zN2 zN1
 obtain ⟨as,a,nl,ha,J⟩:=S.node hn
 obtain ⟨dx,ob⟩:=S.ob
 refine ⟨_,rfl,st,C,dx,_,_,rfl,ob,TC.cl,TC.nN,XQ ln dt,_,rfl,ln,_,_,_,rfl,rfl,SqL.of nl,Zm (by rw [getElem?_map,ha];rfl),?_⟩
 refine ⟨_,rfl,a,n,rfl,J,fun pt H2 s2 hpt=>⟨_,.inr (.inl ⟨_,hpt,rfl⟩),?_⟩⟩
 cases n with
 | bare=>exact absurd rfl hnb
 | fork qs =>
  have h4:qs.length=4:=by obtain ⟨_,_,_,z⟩:=J;exact z
  have hk:(!(((Nd.fork qs).parts).map (fun q:Nat=>V.int (q:Int))).isEmpty)=true:=by
   cases qs with
   | nil=>cases h4
   | cons _ _=>rfl
  rw [hk]
  refine ZF ⟨_,rfl,a,_,rfl,J.tf s2.tf,fun Y H3 s3 I=>⟨Y,_,rfl,.inr I,fun l hl=>?_⟩⟩
  have hl0:H l=none:=by
   cases e:H l with
   | none=>rfl
   | some o=>rw [s3 _ _ (s2 _ _ e)] at hl;cases hl
  exact q l _ hl0 ((s2.trans s3).trans (Zv hl _)) Zh
 | leaf m ps =>
  obtain ⟨p1,pr,rfl,hm1,hx1,hm0⟩:=hok
  refine Zz ⟨_,rfl,a,_,rfl,J.tf s2.tf,fun Y H3 s3 I=>?_⟩
  obtain ⟨o,ts,ept,hod,hlen,hp⟩:=I
  cases ts with
  | nil=>simp [Nd.pairs] at hlen
  | cons t1 tr =>
   have et1:=hp 0 t1 p1 rfl rfl
   refine ⟨Y,_,_,_,rfl,rfl,.inl (.inr ⟨o,ept⟩),(show YR ((t1::tr).map V.ref) ((0:Nat):Int)=some (V.ref t1) from Zm rfl),t1,_,_,_,rfl,rfl,SqT.of et1,rfl,?_⟩
   refine ⟨_,rfl,p1.1,rfl,hx1,fun H4 s4=>⟨_,rfl,ZC p1.1,B,rfl,by rw [hm1];exact hm0,hlev,?_⟩⟩
   refine ⟨af,rfl,⟨_,hft _⟩,fun D hD=>?_⟩
   have s24:=(s2.trans s3).trans s4
   have hD0:H D=none:=by
    cases e:H D with
    | none=>rfl
    | some o=>rw [s24 _ _ e] at hD;cases hD
   refine Zar (K:=K) (a:=af) (xs:=[.int 0,.int 1,.int 2,.int 3]) (by show 4<=Qg;decide) (fun i ys H'=>ys=(([0,1,2,3]:List Nat).take i).map (fun g=>iN (if g=Ya m B then G else 0))/\i<=4/\H' D=some (.lst ys)/\Same H H') ?_ ?_ ?_ ?_
   ·exact ⟨rfl,by decide,Zh,s24.trans (Zv hD _)⟩
   ·rintro i ys Z ⟨rfl,hi,_,_⟩
    exact ⟨by rw [length_map,length_take];show min i 4=i;omega,hft _⟩
   ·rintro i x ys Z hi ⟨rfl,hi4,W,s5⟩
    have hi':i < 4:=(Qj.mp hi).1
    have ex:x=iN i:=by
     rcases i with _ | _ | _ | _ | i
     ·cases hi;rfl
     ·cases hi;rfl
     ·cases hi;rfl
     ·cases hi;rfl
     ·omega
    subst ex
    have fin:∀ y,y=iN (if i=Ya m B then G else 0)->Z D=some (.lst ((([0,1,2,3]:List Nat).take i).map (fun g=>iN (if g=Ya m B then G else 0))))/\(((([0,1,2,3]:List Nat).take i).map (fun g=>iN (if g=Ya m B then G else 0))++[y])=(([0,1,2,3]:List Nat).take (i+1)).map (fun g=>iN (if g=Ya m B then G else 0))/\i+1<=4/\upd Z D (.lst ((([0,1,2,3]:List Nat).take i).map (fun g=>iN (if g=Ya m B then G else 0))++[y])) D=some (.lst ((([0,1,2,3]:List Nat).take i).map (fun g=>iN (if g=Ya m B then G else 0))++[y]))/\Same H (upd Z D (.lst ((([0,1,2,3]:List Nat).take i).map (fun g=>iN (if g=Ya m B then G else 0))++[y])))):=by
     intro y ey
     refine ⟨W,?_,by omega,Zh,fun b o e=>by rw [Zj (Zx e hD0)];exact s5 _ _ e⟩
     subst ey
     rcases i with _ | _ | _ | _ | i
     ·rfl
     ·rfl
     ·rfl
     ·rfl
     ·omega
    have ed:decide (iN i=V.int (ZC p1.1 / 4 ^ B % 4))=decide (i=Ya m B):=by
     rw [hm1,<- Wy]
     by_cases z:i=Ya m B
     ·rw [decide_eq_true z,z];exact decide_eq_true rfl
     ·rw [decide_eq_false z]
      exact decide_eq_false fun y=>z (by have:=V.int.inj y;omega)
    refine ⟨_,rfl,_,rfl,rfl,_,rfl,?_⟩
    rw [ed]
    by_cases z:i=Ya m B
    ·rw [decide_eq_true z]
     exact ZF ⟨_,rfl,fin _ (by rw [if_pos z])⟩
    ·rw [decide_eq_false z]
     exact Zz (fin _ (by rw [if_neg z];rfl))
   ·rintro ys Z ⟨rfl,_,W,s5⟩
    refine q D Z hD0 s5 ?_
    rw [W]
    rfl
end
def gK (p:Str×V):Zn×V:=(QH p.1,p.2)
theorem Zms (ps:List (Str×V))(x:Str):lk ps x=ZN (ps.map gK) (QH x):=rfl
theorem Zhb (x:Str):lk [] x=none:=rfl
theorem WX (p:Str×V)(ps:List (Str×V))(x:Str):lk (p::ps) x=if p.1=x then some p.2 else lk ps x:=by
 by_cases h:p.1=x
 ·rw [if_pos h];exact YL (show (gK p).1=QH x by rw [<- h];rfl)
 ·rw [if_neg h];exact YK (show ¬ (gK p).1=QH x from fun z=>h (TQ z))
theorem VB (B:(ps.map (·.1)).Nodup):lk ps x=some v↔(x,v)∈ps:=by
 induction ps with
 | nil=>simp [Zhb]
 | cons p ps ih =>
  rw [map_cons,nodup_cons] at B
  rw [WX]
  by_cases h:p.1=x
  ·rw [if_pos h]
   constructor
   ·intro e
    cases e
    rw [<- h];exact mem_cons_self
   ·intro e
    rcases mem_cons.mp e with e | e
    ·rw [<- e]
    ·exact absurd (h ▸ Ob (f:=(·.1)) e) B.1
  ·rw [if_neg h,ih B.2,mem_cons]
   exact ⟨.inr,fun e=>e.resolve_left fun z=>h (by rw [<- z])⟩
theorem ZeN (h:∀ p∈ps,p.1≠x):lk ps x=none:=by
 induction ps with
 | nil=>rfl
 | cons p ps ih=>rw [WX,if_neg (h p mem_cons_self)];exact ih fun q z=>h q (mem_cons_of_mem _ z)
theorem ZeO (h:ps.Perm qs)(B:(qs.map (·.1)).Nodup)(x:Str):lk ps x=lk qs x:=by
 have z:(ps.map (·.1)).Nodup:=(h.map (·.1)).nodup_iff.mpr B
 cases e:lk qs x with
 | some v=>exact (VB z).mpr (h.mem_iff.mpr ((VB B).mp e))
 | none =>
  cases e2:lk ps x with
  | none=>rfl
  | some v=>rw [(VB B).mpr (h.mem_iff.mp ((VB z).mp e2))] at e;cases e
def Xt (ps:List (Str×V))(x:Str)(v:V):List (Str×V) :=
 if (ps.any fun p=>decide (p.1=x))=true then ps.map (fun p=>if p.1=x then (p.1,v) else p) else ps++[(x,v)]
theorem ZaD (ps:List (Str×V))(x:Str)(v:V):YJ (ps.map gK) (QH x) v=(Xt ps x v).map gK:=by
 have e:∀ p:Str×V,decide ((gK p).1=QH x)=decide (p.1=x):=fun p=>by
  by_cases h:p.1=x
  ·rw [decide_eq_true h];exact decide_eq_true (by rw [<- h];rfl)
  ·rw [decide_eq_false h];exact decide_eq_false fun z=>h (TQ z)
 have e1:((ps.map gK).any fun B=>decide (B.1=QH x))=ps.any fun p=>decide (p.1=x):=by
  rw [List.any_map];congr 1;funext p;exact e p
 unfold YJ Xt
 rw [e1]
 by_cases h:(ps.any fun p=>decide (p.1=x))=true
 ·rw [if_pos h,if_pos h,map_map,map_map]
  congr 1
  funext p
  show (if (gK p).1=QH x then ((gK p).1,v) else gK p)=gK (if p.1=x then (p.1,v) else p)
  by_cases z:p.1=x
  ·rw [if_pos z,if_pos (show (gK p).1=QH x by rw [<- z];rfl)];rfl
  ·rw [if_neg z,if_neg (show ¬ (gK p).1=QH x from fun y=>z (TQ y))]
 ·rw [if_neg h,if_neg h,map_append];rfl
theorem Zcw (ps:List (Str×V))(x:Str)(v:V):(Xt ps x v).map (·.1)=if x∈ps.map (·.1) then ps.map (·.1) else ps.map (·.1)++[x]:=by
 have e:(ps.any fun p=>decide (p.1=x))=true↔x∈ps.map (·.1):=by
  rw [List.any_eq_true,mem_map]
  exact ⟨fun ⟨p,h,z⟩=>⟨p,h,of_decide_eq_true z⟩,fun ⟨p,h,z⟩=>⟨p,h,decide_eq_true z⟩⟩
 unfold Xt
 by_cases h:(ps.any fun p=>decide (p.1=x))=true
 ·rw [if_pos h,if_pos (e.mp h),map_map]
  apply JO
  intro p _
  show (if p.1=x then (p.1,v) else p).1=p.1
  split<;>rfl
 ·rw [if_neg h,if_neg fun z=>h (e.mpr z),map_append];rfl
theorem ZeX (ps:List (Str×V))(x y:Str)(v:V):lk (Xt ps x v) y=if y=x then some v else lk ps y:=by
 rw [Zms,<- ZaD,Uj]
 by_cases h:y=x
 ·rw [if_pos h,if_pos (by rw [h])]
 ·rw [if_neg h,if_neg fun z=>h (TQ z)];rfl
structure YE (NS:List Str):Prop where
 few:NS.length < 64
 len:∀ x∈NS,x.length<=1000
 lo:∀ x∈NS,0<=ZC x
 hi:∀ x∈NS,ZC x < 1024
structure LeafG (NS:List Str)(m:Int)(ps:List (Str×V)):Prop where
 ne:ps≠[]
 nd:(ps.map (·.1)).Nodup
 sub:∀ p∈ps,p.1∈NS
 mrk:∀ p∈ps,ZC p.1=m
def XC (x:Str):Nat:=(ZC x).toNat
def TriE (NS:List Str)(nds:List Nd)(F:Str->Option V)(lev r num:Nat):Prop :=
 (num=0/\nds[num]?=some .bare/\∀ x∈NS,XC x % 4 ^ lev=r->F x=none) \/
 ∃ m ps,nds[num]?=some (.leaf m ps)/\LeafG NS m ps/\m.toNat % 4 ^ lev=r/\∀ x∈NS,XC x % 4 ^ lev=r->F x=lk ps x
def Tri (NS:List Str)(nds:List Nd)(F:Str->Option V):Nat->Nat->Nat->Nat->Prop
 | 0,lev,r,num=>TriE NS nds F lev r num
 | d+1,lev,r,num=>TriE NS nds F lev r num\/∃ qs,nds[num]?=some (.fork qs)/\qs.length=4/\∀ i q,qs[i]?=some q->Tri NS nds F d (lev+1) (r+i * 4 ^ lev) q
def NEx (nds nds':List Nd):Prop:=∀(i:Nat)(n:Nd),nds[i]?=some n->nds'[i]?=some n
theorem NEx.refl (nds:List Nd):NEx nds nds:=fun _ _ h=>h
theorem NEx.trans (h:NEx a b)(h':NEx b c):NEx a c:=fun i n e=>h' i n (h i n e)
theorem NEx.app (nds:List Nd)(n:Nd):NEx nds (nds++[n]):=fun i m e=>by rw [getElem?_append_left (Qj.mp e).1];exact e
section
variable {NS:List Str}{nds nds':List Nd}{F F':Str->Option V}
theorem TriE.mono {B r z:Nat}(h:TriE NS nds F B r z)(e:NEx nds nds'):TriE NS nds' F B r z:=by
 rcases h with ⟨h1,h2,G⟩ | ⟨m,ps,h1,h2⟩
 ·exact .inl ⟨h1,e _ _ h2,G⟩
 ·exact .inr ⟨m,ps,e _ _ h1,h2⟩
theorem Tri.mono:∀(d:Nat){B r z:Nat},Tri NS nds F d B r z->NEx nds nds'->Tri NS nds' F d B r z
 | 0,_,_,_,h,e=>TriE.mono h e
 | d+1,_,_,_,.inl h,e=>.inl (TriE.mono h e)
 | d+1,_,_,_,.inr ⟨qs,h1,h2,h3⟩,e=>.inr ⟨qs,e _ _ h1,h2,fun i q G=>Tri.mono d (h3 i q G) e⟩
theorem TriE.congr {z r I:Nat}(h:TriE NS nds F z r I)(e:∀ x∈NS,XC x % 4 ^ z=r->F' x=F x):TriE NS nds F' z r I:=by
 rcases h with ⟨h1,h2,J⟩ | ⟨m,ps,h1,h2,J,W⟩
 ·exact .inl ⟨h1,h2,fun x B G=>by rw [e x B G];exact J x B G⟩
 ·exact .inr ⟨m,ps,h1,h2,J,fun x B G=>by rw [e x B G];exact W x B G⟩
theorem WY (n z:Nat):n % 4 ^ (z+1)=n % 4 ^ z+(n / 4 ^ z % 4) * 4 ^ z:=by
 rw [Nat.pow_succ,Nat.mod_mul,Nat.mul_comm (4 ^ z)]
theorem WA {n B r i:Nat}(G:r < 4 ^ B)(h:n % 4 ^ (B+1)=r+i * 4 ^ B):n % 4 ^ B=r/\n / 4 ^ B % 4=i:=by
 rw [WY] at h
 have hp:0 < 4 ^ B:=Nat.pow_pos (by decide)
 have h1:=Nat.mod_lt n hp
 have e1:n % 4 ^ B=r:=by
  have z:=congrArg (· % 4 ^ B) h
  simp only [Nat.add_mul_mod_self_right] at z
  rwa [Nat.mod_mod,NG G] at z
 refine ⟨e1,?_⟩
 rw [e1] at h
 exact Nat.eq_of_mul_eq_mul_right hp (Nat.add_left_cancel h)
theorem UK {z r i:Nat}(B:r < 4 ^ z)(hi:i < 4):r+i * 4 ^ z < 4 ^ (z+1):=by
 rw [Nat.pow_succ]
 have:i * 4 ^ z<=3 * 4 ^ z:=JF _ (by omega)
 omega
theorem Tri.congr:∀(d:Nat){z r B:Nat},r < 4 ^ z->Tri NS nds F d z r B->(∀ x∈NS,XC x % 4 ^ z=r->F' x=F x)->Tri NS nds F' d z r B
 | 0,_,_,_,_,h,e=>TriE.congr h e
 | d+1,_,_,_,_,.inl h,e=>.inl (TriE.congr h e)
 | d+1,_,_,_,hr,.inr ⟨qs,h1,h2,h3⟩,e=>.inr ⟨qs,h1,h2,fun i q G=>Tri.congr d (UK hr (by rw [<- h2];exact (Qj.mp G).1)) (h3 i q G) fun x J I=>e x J (WA hr I).1⟩
theorem XH {n:Int}(h:0<=n)(z:Nat):Ya n z=n.toNat / 4 ^ z % 4:=by
 obtain ⟨k,rfl⟩:=Int.eq_ofNat_of_zero_le h
 unfold Ya
 have:((k:Int) / 4 ^ z % 4)=((k / 4 ^ z % 4:Nat):Int):=by norm_cast
 rw [this]
 rfl
theorem ZlC (N:YE NS):∀(d:Nat){z r B:Nat}{x:Str},r < 4 ^ z->Tri NS nds F d z r B->x∈NS->XC x % 4 ^ z=r ->
 ∃ W e n,Xv nds (ZC x) (d+1) z B=some (W++[e])/\nds[e]?=some n/\((e=0/\n=.bare/\F x=none)\/∃ m ps,n=.leaf m ps/\LeafG NS m ps/\F x=lk ps x):=by
 have I:∀ {z r B:Nat} {x:Str} (d:Nat),TriE NS nds F z r B->x∈NS->XC x % 4 ^ z=r->∃ W e n,Xv nds (ZC x) (d+1) z B=some (W++[e])/\nds[e]?=some n/\((e=0/\n=.bare/\F x=none)\/∃ m ps,n=.leaf m ps/\LeafG NS m ps/\F x=lk ps x):=by
  intro z r B x d h G J
  rcases h with ⟨h1,h2,Y⟩ | ⟨m,ps,h1,h2,Y,h4⟩
  ·exact ⟨[],B,.bare,by unfold Xv;rw [h2];rfl,h2,.inl ⟨h1,rfl,Y x G J⟩⟩
  ·exact ⟨[],B,.leaf m ps,by unfold Xv;rw [h1];rfl,h1,.inr ⟨m,ps,rfl,h2,h4 x G J⟩⟩
 intro d
 induction d with
 | zero=>exact fun _ h G J=>I 0 h G J
 | succ d ih =>
  intro z r B x Z h G J
  rcases h with h | ⟨qs,h1,h2,Y⟩
  ·exact I _ h G J
  ·have hi:Ya (ZC x) z < qs.length:=by rw [h2];exact Ud _ _
   have hq:=getElem?_eq_getElem hi
   obtain ⟨W,e,n,e1,e2,e3⟩:=ih (UK Z (Ud _ _)) (Y _ _ hq) G (by rw [WY,J,XH (N.lo x G)];rfl)
   refine ⟨B::W,e,n,?_,e2,e3⟩
   unfold Xv
   rw [h1]
   show ((qs[Ya (ZC x) z]?).bind fun q=>(Xv nds (ZC x) (d+1) (z+1) q).map (B::·))=_
   rw [hq]
   show (Xv nds (ZC x) (d+1) (z+1) _).map (B::·)=_
   rw [e1]
   rfl
end
theorem ZeK:∀{l N:List Str},l.Nodup->(∀ x∈l,x∈N)->l.length<=N.length:=by
 intro l
 induction l with
 | nil=>intro N _ _;exact Qx _
 | cons a l ih =>
  intro N B J
  rw [nodup_cons] at B
  have I:a∈N:=J a mem_cons_self
  have:=ih (N:=N.erase a) B.2 fun x G=>(List.mem_erase_of_ne (show x≠a from fun z=>B.1 (by rw [<- z];exact G))).mpr (J x (mem_cons_of_mem _ G))
  rw [List.length_erase_of_mem I] at this
  have h1:0 < N.length:=List.length_pos_of_mem I
  rw [length_cons];omega
section
variable {NS:List Str}{nds nds':List Nd}{F F':Str->Option V}
theorem LeafG.few {m:Int}(G:LeafG NS m ps):ps.length<=NS.length:=by
 have:=ZeK G.nd (N:=NS) fun x z=>by obtain ⟨p,hp,rfl⟩:=mem_map.mp z;exact G.sub p hp
 rwa [length_map] at this
theorem LeafG.perm {m:Int}(G:LeafG NS m ps)(h:qs.Perm ps):LeafG NS m qs :=
 ⟨fun z=>G.ne (by rw [z] at h;exact (NF h).symm),(h.map (·.1)).nodup_iff.mpr G.nd,fun p hp=>G.sub p (h.mem_iff.mp hp),fun p hp=>G.mrk p (h.mem_iff.mp hp)⟩
theorem LeafG.ok {m:Int}(N:YE NS)(G:LeafG NS m ps):Zdb (.leaf m ps):=by
 cases ps with
 | nil=>exact absurd rfl G.ne
 | cons p pr =>
  have h1:=G.mrk p mem_cons_self
  have h2:=G.sub p mem_cons_self
  exact ⟨p,pr,rfl,h1,N.len _ h2,by rw [<- h1];exact N.lo _ h2⟩
theorem ZjA (v:V)(hx:x∈NS)(I:(ps.map (·.1)).Nodup)(W:∀ p∈ps,p.1∈NS)(Y:∀ p∈ps,ZC p.1=ZC x):LeafG NS (ZC x) (Xt ps x v):=by
 have G:=Zcw ps x v
 have B:∀ p∈Xt ps x v,p.1∈ps.map (·.1)\/p.1=x:=fun p hp=>by
  have h1:p.1∈(Xt ps x v).map (·.1):=Ob hp
  rw [G] at h1
  by_cases h:x∈ps.map (·.1)
  ·rw [if_pos h] at h1;exact .inl h1
  ·rw [if_neg h] at h1
   rcases mem_append.mp h1 with z | z
   ·exact .inl z
   ·exact .inr (mem_singleton.mp z)
 refine ⟨fun z=>?_,?_,fun p hp=>?_,fun p hp=>?_⟩
 ·rw [z] at G
  by_cases h:x∈ps.map (·.1)
  ·rw [if_pos h] at G;rw [<- G] at h;cases h
  ·rw [if_neg h] at G;simp at G
 ·rw [G]
  by_cases h:x∈ps.map (·.1)
  ·rw [if_pos h];exact I
  ·rw [if_neg h,Sg]
   exact ⟨I,by simp,fun a ha b Z e=>h (by rw [mem_singleton.mp Z] at e;rw [<- e];exact ha)⟩
 ·rcases B p hp with z | z
  ·obtain ⟨q,J,e⟩:=mem_map.mp z
   rw [<- e];exact W q J
  ·rw [z];exact hx
 ·rcases B p hp with z | z
  ·obtain ⟨q,J,e⟩:=mem_map.mp z
   rw [<- e];exact Y q J
  ·rw [z]
def upF (F:Str->Option V)(x:Str)(v:V):Str->Option V:=fun y=>if y=x then some v else F y
theorem ZjQ {d z r:Nat}{m:Int}{ps qs:List (Str×V)}{B:Nat}(N:YE NS)(hx:x∈NS)(Y:XC x % 4 ^ z=r)(Z:nds[B]?=some (.leaf m qs))(W:m=ZC x)(G:LeafG NS (ZC x) (Xt ps x v))(hp:qs.Perm (Xt ps x v))(hF:∀ y∈NS,XC y % 4 ^ z=r->F y=lk ps y):Tri NS nds (upF F x v) d z r B:=by
 subst W
 have h:TriE NS nds (upF F x v) z r B:=by
  refine .inr ⟨ZC x,qs,Z,G.perm hp,Y,fun y J I=>?_⟩
  rw [ZeO hp G.nd,ZeX]
  unfold upF
  by_cases h:y=x
  ·rw [if_pos h,if_pos h]
  ·rw [if_neg h,if_neg h];exact hF y J I
 cases d with
 | zero=>exact h
 | succ d=>exact .inl h
theorem Zis {d B r I:Nat}(N:YE NS)(h0:nds[0]?=some .bare)(hr:r < 4 ^ B)(h:Tri NS nds F (d+1) B r I)(Z:nds[I]?=some n)(hnb:n≠.bare):
 (Xr I B n).length=4/\∀ (i q:Nat),(Xr I B n)[i]?=some q->Tri NS nds F d (B+1) (r+i * 4 ^ B) q:=by
 have wrapE:∀ {r' q:Nat},TriE NS nds F (B+1) r' q->Tri NS nds F d (B+1) r' q:=fun g=>by
  cases d with
  | zero=>exact g
  | succ d=>exact .inl g
 rcases h with h | ⟨qs,h1,h2,h3⟩
 ·rcases h with ⟨_,e,_⟩ | ⟨m,ps,e,G,hm,hF⟩
  ·rw [Z] at e;cases e;exact absurd rfl hnb
  ·rw [Z] at e;cases e
   obtain ⟨p1,pr,e1,e2,e3,e4⟩:=G.ok N
   refine ⟨rfl,fun i q Y=>?_⟩
   have hi:i < 4:=(Qj.mp Y).1
   have J:(if i=Ya m B then I else 0)=q:=by
    rcases i with _ | _ | _ | _ | i
    ·exact Qu Y
    ·exact Qu Y
    ·exact Qu Y
    ·exact Qu Y
    ·omega
   have hmm:m.toNat % 4 ^ (B+1)=r+Ya m B * 4 ^ B:=by rw [WY,hm,XH e4]
   by_cases z:i=Ya m B
   ·rw [if_pos z] at J
    subst J
    exact wrapE (.inr ⟨m,ps,Z,G,by rw [hmm,z],fun y hy W=>hF y hy (WA hr W).1⟩)
   ·rw [if_neg z] at J
    subst J
    refine wrapE (.inl ⟨rfl,h0,fun y hy W=>?_⟩)
    rw [hF y hy (WA hr W).1]
    refine ZeN fun p hp e=>z ?_
    have:=(WA hr W).2
    rw [<- this,<- e]
    unfold XC
    rw [G.mrk p hp,XH e4]
 ·rw [Z] at h1;cases h1
  exact ⟨h2,h3⟩
theorem Ziy {r z:Nat}(N:YE NS)(h:Tri NS nds F 0 5 r z)(J:nds[z]?=some n)(B:n≠.bare)(I:x∈NS)(W:XC x % 4 ^ 5=r):n.hasM (ZC x)=true:=by
 rcases h with ⟨_,e,_⟩ | ⟨m,ps,e,G,Y,hF⟩
 ·rw [J] at e;cases e;exact absurd rfl B
 ·rw [J] at e;cases e
  refine decide_eq_true ?_
  obtain ⟨p1,pr,e1,e2,e3,e4⟩:=G.ok N
  have h1:ZC p1.1 < 1024:=N.hi _ (G.sub p1 (by rw [e1];exact mem_cons_self))
  have h2:=N.hi x I
  have h3:=N.lo x I
  rw [e2] at h1
  unfold XC at W
  have h4:m.toNat % 1024=r:=Y
  have Z:(ZC x).toNat % 1024=r:=W
  rw [NG (by omega)] at h4 Z
  omega
theorem Zir {d B r J num':Nat}{qs:List Nat}{x:Str}{v:V}(N:YE NS)(Y:r < 4 ^ B)(hx:x∈NS)(Z:XC x % 4 ^ B=r)(W:qs.length=4)(hq:∀(i q:Nat),qs[i]?=some q->Tri NS nds F d (B+1) (r+i * 4 ^ B) q)
 (e:NEx nds nds') (hn:Tri NS nds' F' d (B+1) (r+Ya (ZC x) B * 4 ^ B) num') (hF:∀ y,y≠x->F' y=F y) (h:nds'[J]?=some (.fork (qs.set (Ya (ZC x) B) num'))):Tri NS nds' F' (d+1) B r J:=by
 refine .inr ⟨_,h,by rw [length_set,W],fun i q hi=>?_⟩
 have G:i < 4:=by rw [<- W];have:=(Qj.mp hi).1;rwa [length_set] at this
 rw [Nl] at hi
 by_cases z:Ya (ZC x) B=i
 ·rw [if_pos z,if_pos (by rw [W,z];exact G)] at hi
  cases hi
  rw [<- z]
  exact hn
 ·rw [if_neg z] at hi
  refine Tri.congr d (UK Y G) (Tri.mono d (hq i q hi) e) fun y hy I=>hF y fun w=>z ?_
  rw [w] at I
  rw [XH (N.lo x hx)]
  exact (WA Y I).2
end
section
variable {P:Qk}{w:Qs}{K:Qa}{mg:Str->Option Qc}{base:Heap}{C Pl:Addr}{NS:List Str}
def VH (K:Qa)(C Pl:Addr)(NS:List Str):Nat->Sp
 | 0=>fun _ _ _ _=>False
 | d+1=>fun vs H Q _=>∃ (st ln dt:Addr) (nds:List Nd) (tabs:List (Zn×V)) (num lev r:Nat) (x:Str) (v:V) (F:Str->Option V),vs=[.ref st,iN num,iN lev,.str x,v]/\StoreAt K C st ln dt H nds tabs/\nds[0]?=some .bare/\Tri NS nds F d lev r num/\r < 4 ^ lev/\lev+d=5/\x∈NS/\XC x % 4 ^ lev=r/\nds.length+d+1<=100000/\LamAt H Pl YM XL /\
  ∀ (H':Hp) (nds':List Nd) (num':Nat),StoreAt K C st ln dt H' nds' tabs->NEx nds nds'->nds'.length<=nds.length+d+1->Tri NS nds' (upF F x v) d lev r num'->LamAt H' Pl YM XL->Kq [ln,Pl] H H'->TF H H'->Q (iN num') H'
abbrev nPi:List Str:=["self","number","level","name","value"]
theorem scPI:Zo ["self","number","level","name","value","node","pairs","parts","figure"] nPi (Zi c_Store_put_in):={}
theorem ZaJ :∀{d G r B:Nat},Tri NS nds F d G r B->∃ n,nds[B]?=some n/\(n=.bare->B=0):=by
 have e:∀ {G r B:Nat},TriE NS nds F G r B->∃ n,nds[B]?=some n/\(n=.bare->B=0):=fun h=>by
  rcases h with ⟨h1,h2,_⟩ | ⟨m,ps,h1,_⟩
  ·exact ⟨_,h2,fun _=>h1⟩
  ·exact ⟨_,h1,fun z=>by cases z⟩
 intro d G r B h
 cases d with
 | zero=>exact e h
 | succ d =>
  rcases h with h | ⟨qs,h1,_⟩
  ·exact e h
  ·exact ⟨_,h1,fun z=>by cases z⟩
theorem Zjz {d B r I:Nat}(W:nds[0]?=some .bare)(h:Tri NS nds F d B r I)(J:nds[I]?=some n)(Y:I=0\/n.hasM (ZC x)=true):
 (n.pairs.map (·.1)).Nodup/\(∀ p∈n.pairs,p.1∈NS)/\(∀ p∈n.pairs,ZC p.1=ZC x)/\(∀ y∈NS,XC y % 4 ^ B=r->F y=lk n.pairs y)/\n.pairs.length<=NS.length:=by
 have e:TriE NS nds F B r I->(n.pairs.map (·.1)).Nodup/\(∀ p∈n.pairs,p.1∈NS)/\(∀ p∈n.pairs,ZC p.1=ZC x)/\(∀ y∈NS,XC y % 4 ^ B=r->F y=lk n.pairs y)/\n.pairs.length<=NS.length:=fun g=>by
  rcases g with ⟨h1,h2,h3⟩ | ⟨m,ps,h1,G,hm,hF⟩
  ·rw [J] at h2;cases h2
   exact ⟨TD,fun p hp=>(by cases hp),fun p hp=>(by cases hp),h3,Qx _⟩
  ·rw [J] at h1;cases h1
   rcases Y with z | z
   ·rw [z,W] at J;cases J
   ·have Z:m=ZC x:=of_decide_eq_true z
    exact ⟨G.nd,G.sub,fun p hp=>by rw [G.mrk p hp,Z],hF,G.few⟩
 cases d with
 | zero=>exact e h
 | succ d =>
  rcases h with h | ⟨qs,h1,_⟩
  ·exact e h
  ·rw [J] at h1;cases h1
   rcases Y with z | z
   ·rw [z,W] at J;cases J
   ·cases z
theorem Zlc {d k:Nat}(N:YE NS)(hk:2<=k)(F:Fun K "put_in" "Store.put_in" c_Store_put_in f fd)(T:Txt K mg)(TC:XD K C)(DH:Def P w K mg base 1 "has_mark" ["node","number"] (UM K))(DR:Def P w K mg base 1 "pairs_in" ["node"] (Wi K))(DM:Def P w K mg base 1 "mark" ["name"] Wv)(DG:Def P w K mg base 1 "digit" ["number","level"] Wh)(DL:Def P w K mg base 2 "leaf_of" ["pairs"] (UO K Pl YM))(DO:Def P w K mg base 1 "fork_of" ["parts"] (WE K))(DK:DefM P w K mg base 1 C "keep" ["self","node"] (UN K C))(DF:DefM P w K mg base 2 C "fork_parts" ["self","number","level"] (Zgg K C))(DI:DefM P w K mg base k C "put_in" nPi (VH K C Pl NS d)):FnOk P w K mg base ZI (k+1) f fd nPi (VH K C Pl NS (d+1)):=by
 refine F.ok scPI (fun cdv A outer s H vs Q E hr h=>?_)
 obtain ⟨st,ln,dt,nds,tabs,I,B,r,x,v,Fm,rfl,S,h0,Y,hrl,hlev,hx,hxr,hlen,hL,q⟩:=h
 obtain ⟨tz,hz⟩:=T.zero
 have hr1:=hr.mono (show 1<=k by omega)
 have hr2:=hr.mono hk
 refine' ⟨?t,?h,?r⟩
 case h =>
  conv=>arg 2;whnf
  with_reducible refine' Zf ?a1 (Zf (ZZ ?a2 (Zf ?c1 (Zf ?c2 (Zg ?c3))) ZS) (Zf ?a3 (Zf ?a4 (Zf ?a5 (Zg ?a6)))))
  case a1=>exact Zs (i:=5) scPI.nd rfl (Qy rfl) (Zk Zt (ZX (pv 0) rfl) (pv 1) (fun _ _=>rfl))
  case a2=>exact PW.pt (Wt (ZG ZY (pv 1) (Xy rfl hz (v:=.int 0) ⟨_,rfl⟩) (ZA _)) (Wu (Xm (Zy DH hr1 (Zb (pv 5) (Zb (Zy DM hr1 (Zb (pv 3) Za)) Za))))))
  case c1=>exact Zs (i:=6) scPI.nd rfl (Qy rfl) (ZQ (Ul rfl) rfl T.dict (by decide +kernel) (Zb (Zy DR hr1 (Zb (pv 5) Za)) Za))
  case c2=>exact ZbP (VQ hr) (pv 6) (pv 3) (pv 4) rfl
  case c3=>exact Zl (Yo DK TC.cl hr1 (pv 0) (Zb (Zy DL hr2 (Zb (ZQ (ZaR rfl) rfl T.list (by decide +kernel) (Zb (ZmI JW SJ PySem.F.type_dict_items ZiA (pv 6)) Za)) Za)) Za))
  case a3=>exact Zs (i:=7) scPI.nd rfl (Qy rfl) (Yo DF TC.cl hr2 (pv 0) (Zb (pv 1) (Zb (pv 2) Za)))
  case a4=>exact Zs (i:=8) scPI.nd rfl (Qy rfl) (Zy DG hr1 (Zb (Zy DM hr1 (Zb (pv 3) Za)) (Zb (pv 2) Za)))
  case a5=>exact XX (Yo DI TC.cl hr (pv 0) (Zb (Zk Zt (pv 7) (pv 8) (fun _ _=>rfl)) (Zb (Zp Yf (pv 2) Zc) (Zb (pv 3) (Zb (pv 4) Za))))) (Zbn (pv 7) (pv 8) Vm)
  case a6=>exact Zl (Yo DK TC.cl hr1 (pv 0) (Zb (Zy DO hr1 (Zb (pv 7) Za)) Za))
 try dsimp only [Yz,Cx.nox]
 refine zs6 ?_
 intro zD zS zN5 zN4 zN3 zN2 zN1
 obtain ⟨n,hn,hbare⟩:=ZaJ Y
 obtain ⟨as,a,nl,ha,hna⟩:=S.node hn
 obtain ⟨dx,ob⟩:=S.ob
 obtain ⟨tb,htb⟩:=hL.tbl
 have hst:st ∉ [Pl]:=fun z=>by rw [mem_singleton.mp z,htb] at ob;cases ob
 have hln:ln ∉ [Pl]:=fun z=>by rw [mem_singleton.mp z,htb] at nl;cases nl
 have hdt:dt ∉ [Pl]:=fun z=>by have e:=S.tb;rw [mem_singleton.mp z,htb] at e;cases e
 refine ⟨_,rfl,st,C,dx,_,_,rfl,ob,TC.cl,TC.nN,XQ ln dt,_,rfl,ln,_,_,_,rfl,rfl,SqL.of nl,Zm (by rw [getElem?_map,ha];rfl),?_⟩
 refine ⟨_,rfl,rfl,_,rfl,?_⟩
 have ed:decide (iN I=V.int 0)=decide (I=0):=by
  by_cases z:I=0
  ·rw [decide_eq_true z,z];exact decide_eq_true rfl
  ·rw [decide_eq_false z]
   exact decide_eq_false fun y=>z (by have:=V.int.inj y;omega)
 rw [ed]
 rcases Classical.em (I=0\/n.hasM (ZC x)=true) with hc | hc
 ·obtain ⟨hnd,hsub,hmrk,hF,hfew⟩:=Zjz h0 Y hn hc
  by_cases z0:I=0
  rw [decide_eq_true z0]
  have s1:Same H H:=Same.refl H
  refine ZF (ZF ?_)
  rotate_left
  rw [decide_eq_false z0]
  refine Zz ⟨_,rfl,_,rfl,x,rfl,N.len x hx,fun H1 s1=>⟨a,n,ZC x,rfl,hna.tf s1.tf,_,rfl,?_⟩⟩
  rw [hc.resolve_left z0]
  refine ZF ?_
  all_goals
   have S1:=S.keep s1
   refine ⟨_,rfl,a,n,rfl,hna.tf s1.tf,fun pt H2 s2 hpt=>?_⟩
   obtain ⟨o,ts,ept,hod,hlts,hp⟩:=hpt
   have hfw:=N.few
   refine ⟨pt,ts,n.pairs,rfl,⟨o,ept,hod⟩,hlts,by omega,hp,hnd,fun dd hd=>?_⟩
   have hd0:H dd=none:=by
    cases e:H dd with
    | none=>rfl
    | some o=>rw [s2 _ _ (s1 _ _ e)] at hd;cases hd
   have s3:=Zv hd (.dK (n.pairs.map fun p=>((QH p.1:Zn),p.2)))
   refine ⟨_,rfl,_,rfl,_,rfl,dd,_,rfl,DPut.k (k:=QH x) Zh (by rw [length_map];exact QW (show n.pairs.length<=64 by omega) (by decide)),?_⟩
   have s4:Same H (upd (upd H2 dd (.dK (n.pairs.map fun p=>((QH p.1:Zn),p.2)))) dd (.dK (YJ (n.pairs.map fun p=>((QH p.1:Zn),p.2)) (QH x) v))):=fun b o e=>by
    rw [Zj (Zx e hd0),Zj (Zx e hd0)];exact s2 _ _ (s1 _ _ e)
   have ed4:upd (upd H2 dd (.dK (n.pairs.map fun p=>((QH p.1:Zn),p.2)))) dd (.dK (YJ (n.pairs.map fun p=>((QH p.1:Zn),p.2)) (QH x) v)) dd=some (.dK ((Xt n.pairs x v).map gK)):=by
    rw [Zh,<- ZaD];rfl
   generalize upd (upd H2 dd (.dK (n.pairs.map fun p=>((QH p.1:Zn),p.2)))) dd (.dK (YJ (n.pairs.map fun p=>((QH p.1:Zn),p.2)) (QH x) v))=H4 at *
   have S4:=S.keep s4
   obtain ⟨dx4,ob4⟩:=S4.ob
   refine ⟨_,rfl,st,dx4,_,rfl,ob4,Yb ln dt (by decide +kernel) (by decide +kernel),_,rfl,.inr (.inr (.inl ⟨rfl,.inl ⟨_,ed4⟩⟩)),dd,_,rfl,rfl,ed4,fun vv hvv=>?_⟩
   have s5:=Zv hvv (.ext (ZaO vv dd))
   refine ⟨vv,dd,_,rfl,Zh,s5 _ _ ed4,fun l ts2 H5 hl5 s5b hlt2 hnone htup hlst=>?_⟩
   have s6:Same H H5:=(s4.trans s5).trans s5b
   have G:=ZjA (NS:=NS) v hx hnd hsub hmrk
   have hPT:PairT H5 ts2 (Xt n.pairs x v):=by
    refine ⟨by rw [hlt2,length_map],fun i b p e1 e2=>?_⟩
    exact htup i b (gK p) e1 (by rw [getElem?_map,e2];rfl)
   have hL5:=LamAt.same hL s6
   refine ⟨l,ts2,Xt n.pairs x v,rfl,hlst,hPT,G.ne,by have:=G.few;omega,fun p hp=>N.len _ (G.sub p hp),hL5,fun a6 H6 p1 pr g6 L6 perm6 sort6 node6=>?_⟩
   have tb5:H5 Pl=some (.tbl tb):=s6 _ _ htb
   have tf6:TF H5 H6:=g6.tf tb5
   have S6:=(S.keep s6).kq g6.kq tf6 hst hln hdt
   refine ⟨st,ln,dt,a6,nds,tabs,_,rfl,S6,node6,by omega,fun H7 S7 k7 tf7=>?_⟩
   have nl6:∃ xs,H6 ln=some (.lst xs):=by obtain ⟨as6,e6,_⟩:=S6.nl;exact ⟨_,e6⟩
   have hmk:ZC p1.1=ZC x:=(G.perm perm6).mrk p1 mem_cons_self
   refine q H7 _ nds.length S7 (NEx.app nds _) (by rw [length_append];show nds.length+1<=_;omega) ?_ (L6.kq k7 fun b hb=>by rw [mem_singleton.mp hb];exact nl6) ?_ ((s6.tf.trans tf6).trans tf7)
   ·exact ZjQ (ps:=n.pairs) N hx hxr (by rw [getElem?_append_right (Qf _),Jn];rfl) hmk G perm6 hF
   ·exact (Same.kq s6).trans ((g6.kq.sub fun b hb=>by simp at hb ⊢;exact .inr hb).trans (k7.sub fun b hb=>by simp at hb ⊢;exact .inl hb))
 ·have z0:I≠0:=fun z=>hc (.inl z)
  have zm:n.hasM (ZC x)=false:=by
   cases e:n.hasM (ZC x) with
   | false=>rfl
   | true=>exact absurd (.inr e) hc
  have hnb:n≠.bare:=fun z=>z0 (hbare z)
  rw [decide_eq_false z0]
  refine Zz ⟨_,rfl,_,rfl,x,rfl,N.len x hx,fun H1 s1=>⟨a,n,ZC x,rfl,hna.tf s1.tf,_,rfl,?_⟩⟩
  rw [zm]
  refine Zz ?_
  cases d with
  | zero =>
   have h5:B=5:=by omega
   subst h5
   exact absurd (.inr (Ziy N Y hn hnb hx hxr)) hc
  | succ d =>
   obtain ⟨hf4,hft⟩:=Zis N h0 hrl Y hn hnb
   have hok:Zdb n:=by
    rcases Y with Y | ⟨qs,h1,_⟩
    ·rcases Y with ⟨z,_⟩ | ⟨m,ps,h1,G,_⟩
     ·exact absurd z z0
     ·rw [hn] at h1;cases h1;exact G.ok N
    ·rw [hn] at h1;cases h1;exact trivial
   have S1:=S.keep s1
   obtain ⟨dx1,ob1⟩:=S1.ob
   refine ⟨_,rfl,st,dx1,_,rfl,ob1,Yb ln dt (by decide +kernel) (by decide +kernel),_,rfl,_,rfl,st,ln,dt,nds,tabs,I,B,n,rfl,S1,hn,hnb,hok,by omega,fun rl H2 hrl1 s2 el=>?_⟩
   refine ⟨_,rfl,x,rfl,N.len x hx,fun H3 s3=>⟨_,rfl,ZC x,B,rfl,N.lo x hx,by omega,?_⟩⟩
   have s13:Same H H3:=(s1.trans s2).trans s3
   have S3:=S.keep s13
   have J:H rl=none:=by
    cases e:H rl with
    | none=>rfl
    | some o=>rw [s1 _ _ e] at hrl1;cases hrl1
   have el3:=s3 _ _ el
   have hdl:Ya (ZC x) B < (Xr I B n).length:=by rw [hf4];exact Ud _ _
   have hq1:=getElem?_eq_getElem hdl
   generalize (Xr I B n)[Ya (ZC x) B]=q1 at hq1
   have hat:YR ((Xr I B n).map iN) (ZC x / 4 ^ B % 4)=some (iN q1):=by rw [<- Wy];exact Zm (by rw [getElem?_map,hq1];rfl)
   obtain ⟨dx3,ob3⟩:=S3.ob
   refine ⟨_,rfl,st,dx3,_,rfl,ob3,Yb ln dt (by decide +kernel) (by decide +kernel),_,rfl,_,rfl,rl,_,_,_,rfl,rfl,SqL.of el3,hat,_,rfl,_,_,rfl,rfl,_,rfl,_,rfl,?_⟩
   refine ⟨st,ln,dt,nds,tabs,q1,B+1,_,x,v,Fm,rfl,S3,h0,hft _ _ hq1,UK hrl (Ud _ _),by omega,hx,by rw [WY,hxr,XH (N.lo x hx)];rfl,by omega,LamAt.same hL s13,fun H5 Z W S5 ext5 len5 tri5 L5 kq5 tf5=>?_⟩
   have nrl:rl ∉ [ln,Pl]:=fun z=>by
    rcases mem_cons.mp z with z | z
    ·rw [z,nl] at J;cases J
    ·rw [mem_singleton.mp z,htb] at J;cases J
   have el5:=kq5 _ _ nrl el3
   have hix:Wo ((Xr I B n).map iN).length (ZC x / 4 ^ B % 4)=some (Ya (ZC x) B):=by
    rw [<- Wy,length_map]
    unfold Wo
    rw [if_pos (by omega),if_pos (by omega)]
    rfl
   refine ⟨_,rfl,_,rfl,rl,_,_,_,rfl,rfl,el5,hix,?_⟩
   have tf6:=Zek (o:=.lst (((Xr I B n).map iN).set (Ya (ZC x) B) (iN W))) el5
   have k6:Kq [rl] H5 (upd H5 rl (.lst (((Xr I B n).map iN).set (Ya (ZC x) B) (iN W)))):=Zbg
   have nst:st ∉ [rl]:=fun z=>by rw [<- mem_singleton.mp z,ob] at J;cases J
   have nln:ln ∉ [rl]:=fun z=>by rw [<- mem_singleton.mp z,nl] at J;cases J
   have ndt:dt ∉ [rl]:=fun z=>by rw [<- mem_singleton.mp z,S.tb] at J;cases J
   have S6:=S5.kq k6 tf6 nst nln ndt
   have el6:upd H5 rl (.lst (((Xr I B n).map iN).set (Ya (ZC x) B) (iN W))) rl=some (.lst (((Xr I B n).set (Ya (ZC x) B) W).map iN)):=by rw [Zh,List.map_set]
   have L6:=L5.kq k6 fun b hb=>by rw [mem_singleton.mp hb];exact ⟨_,el5⟩
   have kh:Kq [ln,Pl] H (upd H5 rl (.lst (((Xr I B n).map iN).set (Ya (ZC x) B) (iN W)))):=fun b o nb e=>by
    rw [Zj (Zx e J)];exact kq5 _ _ nb (s13 _ _ e)
   generalize upd H5 rl (.lst (((Xr I B n).map iN).set (Ya (ZC x) B) (iN W)))=H6 at *
   obtain ⟨dx6,ob6⟩:=S6.ob
   refine ⟨_,rfl,st,dx6,_,rfl,ob6,Yb ln dt (by decide +kernel) (by decide +kernel),_,rfl,rl,(Xr I B n).set (Ya (ZC x) B) W,rfl,el6,by rw [length_set,hf4],fun a7 H7 s7 node7=>?_⟩
   have S7:=S6.keep s7
   refine ⟨st,ln,dt,a7,Z,tabs,_,rfl,S7,node7,by omega,fun H8 S8 k8 tf8=>?_⟩
   have nl7:∃ xs,H7 ln=some (.lst xs):=by obtain ⟨as7,e7,_⟩:=S7.nl;exact ⟨_,e7⟩
   refine q H8 _ Z.length S8 (ext5.trans (NEx.app Z _)) (by rw [length_append];show Z.length+1<=_;omega) ?_ ((LamAt.same L6 s7).kq k8 fun b hb=>by rw [mem_singleton.mp hb];exact nl7) ?_ ((((s13.tf.trans tf5).trans tf6).trans s7.tf).trans tf8)
   ·refine Zir (v:=v) (num':=W) (F:=Fm) (qs:=Xr I B n) N hrl hx hxr hf4 hft (ext5.trans (NEx.app Z _)) (Tri.mono d tri5 (NEx.app Z _)) (fun y hy=>if_neg hy) ?_
    rw [getElem?_append_right (Qf _),Jn];rfl
   ·exact (kh.trans (Same.kq s7)).trans (k8.sub fun b hb=>by simp at hb ⊢;exact .inl hb)
end
section
variable {P:Qk}{w:Qs}{K:Qa}{mg:Str->Option Qc}{base:Heap}{C Pl:Addr}{NS:List Str}
theorem ZeS (N:YE NS)(F:Fun K "put_in" "Store.put_in" c_Store_put_in f fd)(T:Txt K mg)(G:XD K C)(J:Def P w K mg base 1 "has_mark" ["node","number"] (UM K))(Z:Def P w K mg base 1 "pairs_in" ["node"] (Wi K))(Y:Def P w K mg base 1 "mark" ["name"] Wv)(W:Def P w K mg base 1 "digit" ["number","level"] Wh)(I:Def P w K mg base 2 "leaf_of" ["pairs"] (UO K Pl YM))(B:Def P w K mg base 1 "fork_of" ["parts"] (WE K))(DK:DefM P w K mg base 1 C "keep" ["self","node"] (UN K C))(z:DefM P w K mg base 2 C "fork_parts" ["self","number","level"] (Zgg K C))(b:Binds K fd nPi [])(mt:Zam K C "put_in" f):∀ d,FnOk P w K mg base ZI (2+d) f fd nPi (VH K C Pl NS d)
 | 0=>F.ok scPI (len:=(fun _ _ _ _ h=>h.elim)) (fun _ _ _ _ _ _ _ _ _ h=>h.elim)
 | d+1=>Zlc N (Jc 2 d) F T G J Z Y W I B DK z ⟨f,fd,ZeS N F T G J Z Y W I B DK z b mt d,b,mt⟩
inductive VT (vs:List V)(H:Hp)(Q:VK)(w_3:XK):Prop
 | mk (u v:_):vs=[u,v]->scal u v=true->Q (.bl (decide (u=v))) H->VT vs H Q w_3
theorem scAl:Zo ["one","other"] ["one","other"] (Zi s_alike):={}
theorem ZiD (F:Fun K "alike" "alike" s_alike f fd):FnOk P w K mg base ZI 1 f fd ["one","other"] VT:=by
 refine F.ok scAl (fun z A outer s H vs Q E G h=>?_)
 obtain ⟨u,v,rfl,B,q⟩:=h
 exact ⟨_,Zg (Zl (Yx ZY (pv 0) (pv 1) (ZA _))),⟨_,rfl,_,rfl,B,q⟩⟩
def ValV:V->Prop
 | .int _=>True
 | .str _=>True
 | _=>False
theorem ValV.scal (h:ValV v)(z:∀ u,o=some u->ValV u):scal (o.getD .non) v=true:=by
 cases o with
 | none=>cases v<;>first | rfl | exact h.elim
 | some u =>
  have B:=z u rfl
  cases u<;>first | exact B.elim | (cases v<;>first | rfl | exact h.elim)
theorem ValV.ne (h:ValV v):v≠.non:=fun z=>by subst z;exact h
theorem Zby {t:Nat}(N:YE NS)(h:Tri NS nds F 5 0 0 t)(I:x∈NS):
 ∃ B e n,Xv nds (ZC x) 6 0 t=some (B++[e])/\nds[e]?=some n/\n.pairs.length<=1000/\(n.pairs.map (·.1)).Nodup/\lk n.pairs x=F x:=by
 obtain ⟨B,e,n,e1,W,J⟩:=ZlC N 5 (by decide) h I (by rw [Nm,NO])
 refine ⟨B,e,n,e1,W,?_⟩
 have Y:=N.few
 rcases J with ⟨_,rfl,z⟩ | ⟨m,ps,rfl,G,z⟩
 ·exact ⟨Qx _,TD,by rw [z];rfl⟩
 ·exact ⟨by have:=G.few;show ps.length<=1000;omega,G.nd,z.symm⟩
inductive Zgl (K:Qa)(C Pl:Addr)(NS:List Str)(vs:List V)(H:Hp)(Q:VK)(w_3:XK):Prop
 | mk (st ln dt:Addr) (nds:List Nd) (tabs:List (Zn×V)) (t:Nat) (x:Str) (v:V) (F:Str->Option V):vs=[.ref st,iN t,.str x,v]->StoreAt K C st ln dt H nds tabs->nds[0]?=some .bare->(ZN tabs (QY (t:Int))).isSome=true->Tri NS nds F 5 0 0 t->x∈NS->ValV v->(∀ u,F x=some u->ValV u)->nds.length+6<=100000->tabs.length<=100000->LamAt H Pl YM XL->(∀ (H':Hp) (nds':List Nd) (tabs':List (Zn×V)) (t':Nat),StoreAt K C st ln dt H' nds' tabs'->NEx nds nds'->nds'.length<=nds.length+6->tabs'.length<=tabs.length+1->(∀ k,(ZN tabs k).isSome=true->(ZN tabs' k).isSome=true)->(ZN tabs' (QY (t':Int))).isSome=true->Tri NS nds' (upF F x v) 5 0 0 t'->LamAt H' Pl YM XL->Kq [ln,dt,Pl] H H'->TF H H'->Q (iN t') H')->Zgl K C Pl NS vs H Q w_3
theorem scPu:Zo ["self","table","name","value"] ["self","table","name","value"] (Zi c_Store_put):={}
theorem ZmB (N:YE NS)(F:Fun K "put" "Store.put" c_Store_put f fd)(TC:XD K C)(DA:Def P w K mg base 1 "alike" ["one","other"] VT)(DLk:DefM P w K mg base 3 C "looked" ["self","table","name"] (Vo K C))(DAs:DefM P w K mg base 1 C "as_table" ["self","number"] (ZcU K C))(DI:DefM P w K mg base 8 C "put_in" nPi (VH K C Pl NS 6)):FnOk P w K mg base ZI 9 f fd ["self","table","name","value"] (Zgl K C Pl NS):=by
 refine F.ok scPu (fun cdv A outer s H vs Q E hr h=>?_)
 obtain ⟨st,ln,dt,nds,B,t,x,v,Fm,rfl,S,h0,J,I,hx,hv,hFv,hlen,htl,hL,q⟩:=h
 have hr1:=hr.mono (show 1<=8 by decide)
 have hr3:=hr.mono (show 3<=8 by decide)
 refine' ⟨?t,?h,?r⟩
 case h =>
  conv=>arg 2;whnf
  with_reducible refine' Zf (ZZ ?a1 (Zg ?a2) ZS) (Zg ?a3)
  case a1=>exact Xm (Zy DA hr1 (Zb (Yo DLk TC.cl hr3 (pv 0) (Zb (pv 1) (Zb (pv 2) Za))) (Zb (pv 3) Za)))
  case a2=>exact Zl (pv 1)
  case a3=>exact Zl (Yo DAs TC.cl hr1 (pv 0) (Zb (Yo DI TC.cl hr (pv 0) (Zb (pv 1) (Zb Zc (Zb (pv 2) (Zb (pv 3) Za))))) Za))
 try dsimp only [Yz,Cx.nox]
 refine zs2 ?_
 intro zD zS zN1
 obtain ⟨dx,ob⟩:=S.ob
 obtain ⟨ws,e,n,e1,e2,e3,e4,e5⟩:=Zby N I hx
 refine ⟨_,rfl,st,dx,_,rfl,ob,Yb ln dt (by decide +kernel) (by decide +kernel),_,rfl,_,rfl,st,ln,dt,nds,B,t,x,6,ws,e,n,rfl,S,J,N.len x hx,N.lo x hx,by decide,e1,e2,e3,e4,fun H1 s1=>?_⟩
 rw [e5]
 refine ⟨_,rfl,_,_,rfl,hv.scal hFv,_,rfl,?_⟩
 have S1:=S.keep s1
 have hL1:=LamAt.same hL s1
 by_cases hc:(Fm x).getD .non=v
 ·rw [decide_eq_true hc]
  refine ZF ⟨_,rfl,q H1 nds B t S1 (NEx.refl _) (by omega) (by omega) (fun _ h=>h) J (Tri.congr 5 (by decide) I fun y _ _=>?_) hL1 (Same.kq s1) s1.tf⟩
  unfold upF
  by_cases z:y=x
  ·rw [if_pos z,z]
   cases eF:Fm x with
   | none=>rw [eF] at hc;exact absurd hc.symm hv.ne
   | some u=>rw [eF] at hc;exact congrArg some hc.symm
  ·rw [if_neg z]
 ·rw [decide_eq_false hc]
  obtain ⟨dx1,ob1⟩:=S1.ob
  refine Zz ⟨_,rfl,st,dx1,_,rfl,ob1,Yb ln dt (by decide +kernel) (by decide +kernel),_,rfl,st,dx1,_,rfl,ob1,Yb ln dt (by decide +kernel) (by decide +kernel),_,rfl,_,rfl,_,rfl,?_⟩
  refine ⟨st,ln,dt,nds,B,t,0,0,x,v,Fm,rfl,S1,h0,I,by decide,rfl,hx,by rw [Nm,NO],hlen,hL1,fun H2 W G S2 ext2 len2 tri2 L2' kq2 tf2=>?_⟩
  refine ⟨st,ln,dt,W,B,G,rfl,S2,by omega,fun H3 S3 k3 tf3=>?_⟩
  obtain ⟨tb,htb⟩:=L2'.tbl
  refine q H3 W _ G S3 ext2 len2 (XR _ _ _) (fun k hk=>?_) (by rw [Uj,if_pos rfl];rfl) tri2 ?_ ?_ ((s1.tf.trans tf2).trans tf3)
  ·rw [Uj]
   by_cases z:k=QY (G:Int)
   ·rw [if_pos z];rfl
   ·rw [if_neg z];exact hk
  ·have Z:∀ b∈[dt],∃ xs,H2 b=some (.dK xs):=fun b Y=>by rw [mem_singleton.mp Y];exact ⟨_,S2.tb⟩
   rcases L2' with h | ⟨c,h,h2⟩
   ·exact .inl (k3 _ _ (fun z=>by obtain ⟨_,e⟩:=Z _ z;rw [h] at e;cases e) h)
   ·exact .inr ⟨c,k3 _ _ (fun z=>by obtain ⟨_,e⟩:=Z _ z;rw [h] at e;cases e) h,k3 _ _ (fun z=>by obtain ⟨_,e⟩:=Z _ z;rw [h2] at e;cases e) h2⟩
  ·exact ((Same.kq s1).trans (kq2.sub fun b Y=>by simp at Y ⊢;rcases Y with z | z;exact .inl z;exact .inr (.inr z))).trans (k3.sub fun b Y=>by simp at Y ⊢;exact .inr (.inl Y))
end
section
variable {NS:List Str}{nds nds':List Nd}{F F':Str->Option V}
def dnF (F:Str->Option V)(x:Str):Str->Option V:=fun y=>if y=x then none else F y
def Xc (ps:List (Str×V))(x:Str):List (Str×V):=ps.filter fun p=>!decide (p.1=x)
theorem ZbG (ps:List (Str×V))(x y:Str):lk (Xc ps x) y=if y=x then none else lk ps y:=by
 induction ps with
 | nil => by_cases h:y=x
          · rw [if_pos h];rfl
          · rw [if_neg h];rfl
 | cons p ps ih =>
   unfold Xc at ih ⊢
   rw [Ps]
   by_cases hp:p.1=x
   · rw [decide_eq_true hp]
     show lk (ps.filter fun p=>!decide (p.1=x)) y=_
     rw [ih,WX]
     by_cases h:y=x
     · rw [if_pos h,if_pos h]
     · rw [if_neg h,if_neg h,if_neg fun z=>h (by rw [<- z,hp])]
   · rw [decide_eq_false hp]
     show lk (p::ps.filter fun p=>!decide (p.1=x)) y=_
     rw [WX,ih,WX]
     by_cases h:y=x
     · rw [if_pos h,if_pos h,if_neg fun z=>hp (by rw [z,h])]
     · rw [if_neg h,if_neg h]
theorem LeafG.but {m:Int}(G:LeafG NS m ps)(h:Xc ps x≠[]):LeafG NS m (Xc ps x):=by
 have z:(Xc ps x).Sublist ps:=Oc
 exact ⟨h,G.nd.sublist (z.map (·.1)),fun p hp=>G.sub p (z.subset hp),fun p hp=>G.mrk p (z.subset hp)⟩
theorem ZcF {d B r z:Nat}(h:TriE NS nds F B r z):Tri NS nds F d B r z:=by
 cases d with
 | zero=>exact h
 | succ d=>exact .inl h
theorem ZhV {d z r B:Nat}(h:Tri NS nds F d z r B)(Z:nds[B]?=some n)(Y:x∈NS)(I:XC x % 4 ^ z=r)(J:F x=some v0):
 (∃ ps,n=.leaf (ZC x) ps/\LeafG NS (ZC x) ps/\∀ y∈NS,XC y % 4 ^ z=r->F y=lk ps y)\/∃ qs d',d=d'+1/\n=.fork qs/\qs.length=4/\∀ i q,qs[i]?=some q->Tri NS nds F d' (z+1) (r+i * 4 ^ z) q:=by
 have e:TriE NS nds F z r B->∃ ps,n=.leaf (ZC x) ps/\LeafG NS (ZC x) ps/\∀ y∈NS,XC y % 4 ^ z=r->F y=lk ps y:=fun g=>by
  rcases g with ⟨_,_,W⟩ | ⟨m,ps,h1,G,_,h4⟩
  ·rw [W x Y I] at J;cases J
  ·rw [Z] at h1;cases h1
   have hm:ZC x=m:=by
    rw [h4 x Y I] at J
    exact G.mrk _ ((VB G.nd).mp J)
   subst hm
   exact ⟨ps,rfl,G,h4⟩
 cases d with
 | zero=>exact .inl (e h)
 | succ d =>
  rcases h with h | ⟨qs,h1,h2,W⟩
  ·exact .inl (e h)
  ·rw [Z] at h1;cases h1
   exact .inr ⟨qs,d,rfl,rfl,h2,W⟩
theorem ZjR {z r B:Nat}(d:Nat)(W:XC x % 4 ^ z=r)(Y:nds[B]?=some (.leaf (ZC x) qs))(G:LeafG NS (ZC x) (Xc ps x))(hp:qs.Perm (Xc ps x))(Z:∀ y∈NS,XC y % 4 ^ z=r->F y=lk ps y):Tri NS nds (dnF F x) d z r B:=by
 refine ZcF (.inr ⟨ZC x,qs,Y,G.perm hp,W,fun y J I=>?_⟩)
 rw [ZeO hp G.nd,ZbG]
 unfold dnF
 by_cases h:y=x
 ·rw [if_pos h,if_pos h]
 ·rw [if_neg h,if_neg h];exact Z y J I
theorem ZjP {z r:Nat}(d:Nat)(I:nds[0]?=some .bare)(J:Xc ps x=[])(W:∀ y∈NS,XC y % 4 ^ z=r->F y=lk ps y):Tri NS nds (dnF F x) d z r 0:=by
 refine ZcF (.inl ⟨rfl,I,fun y G B=>?_⟩)
 have:=ZbG ps x y
 rw [J,Zhb] at this
 unfold dnF
 by_cases h:y=x
 ·rw [if_pos h]
 ·rw [if_neg h] at this ⊢;rw [W y G B];exact this.symm
theorem Zhn {d B r num':Nat}{qs:List Nat}{x:Str}(N:YE NS)(W:r < 4 ^ B)(Z:x∈NS)(Y:XC x % 4 ^ B=r)(J:qs.length=4)(hq:∀(i q:Nat),qs[i]?=some q->Tri NS nds F d (B+1) (r+i * 4 ^ B) q)
 (e:NEx nds nds') (hn:Tri NS nds' F' d (B+1) (r+Ya (ZC x) B * 4 ^ B) num') (hF:∀ y,y≠x->F' y=F y) (i q:Nat) (hi:(qs.set (Ya (ZC x) B) num')[i]?=some q):Tri NS nds' F' d (B+1) (r+i * 4 ^ B) q:=by
 have G:i < 4:=by rw [<- J];have:=(Qj.mp hi).1;rwa [length_set] at this
 rw [Nl] at hi
 by_cases z:Ya (ZC x) B=i
 ·rw [if_pos z,if_pos (by rw [J,z];exact G)] at hi
  cases hi
  rw [<- z]
  exact hn
 ·rw [if_neg z] at hi
  refine Tri.congr d (UK W G) (Tri.mono d (hq i q hi) e) fun y hy I=>hF y fun w=>z ?_
  rw [w] at I
  rw [XH (N.lo x Z)]
  exact (WA W I).2
theorem ZaY {qs:List Nat}{q:Nat}(h:(qs.filter fun p=>!decide (p=0))=[q]):∃ i:Nat,qs[i]?=some q/\q≠0/\∀(j p:Nat),qs[j]?=some p->j≠i->p=0:=by
 induction qs with
 | nil=>cases h
 | cons a qs ih =>
  rw [Ps] at h
  by_cases I:a=0
  ·rw [decide_eq_true I] at h
   obtain ⟨i,h1,h2,W⟩:=ih h
   refine ⟨i+1,h1,h2,fun j p G B=>?_⟩
   cases j with
   | zero=>cases G;exact I
   | succ j=>exact W j p G fun z=>B (by rw [z])
  ·rw [decide_eq_false I] at h
   have h':a::(qs.filter fun p=>!decide (p=0))=[q]:=h
   obtain ⟨e1,J⟩:=Ss h'
   refine ⟨0,by rw [e1];rfl,by rw [<- e1];exact I,fun j p G B=>?_⟩
   cases j with
   | zero=>exact absurd rfl B
   | succ j =>
    have hp:p∈qs:=mem_of_getElem? G
    by_cases z:p=0
    ·exact z
    ·have:p∈qs.filter fun p=>!decide (p=0):=PP.mpr ⟨hp,by rw [decide_eq_false z];rfl⟩
     rw [J] at this;cases this
theorem Znj {d B r q:Nat}{qs:List Nat}{m:Int}{ps:List (Str×V)}(N:YE NS)(h0:nds[0]?=some .bare)(hr:r < 4 ^ B)(hl:qs.length=4)(hq:∀(i q:Nat),qs[i]?=some q->Tri NS nds F d (B+1) (r+i * 4 ^ B) q)
 (h1:(qs.filter fun p=>!decide (p=0))=[q]) (hn:nds[q]?=some (.leaf m ps)):Tri NS nds F (d+1) B r q:=by
 obtain ⟨i,hi,hq0,W⟩:=ZaY h1
 have J:TriE NS nds F (B+1) (r+i * 4 ^ B) q:=by
  have:=hq i q hi
  cases d with
  | zero=>exact this
  | succ d =>
   rcases this with h | ⟨qs',h,_⟩
   ·exact h
   ·rw [hn] at h;cases h
 rcases J with ⟨z,_⟩ | ⟨m',ps',e,G,hm,hF⟩
 ·exact absurd z hq0
 ·rw [hn] at e;cases e
  obtain ⟨p1,pr,e1,e2,e3,e4⟩:=G.ok N
  obtain ⟨Z,hm2⟩:=WA hr hm
  refine .inl (.inr ⟨m,ps,hn,G,Z,fun y Y hry=>?_⟩)
  have hj:Ya (ZC y) B < qs.length:=by rw [hl];exact Ud _ _
  have I:XC y % 4 ^ (B+1)=r+Ya (ZC y) B * 4 ^ B:=by rw [WY,hry,XH (N.lo y Y)];rfl
  by_cases z:Ya (ZC y) B=i
  ·rw [z] at I;exact hF y Y I
  ·have hz:=W _ _ (getElem?_eq_getElem hj) z
   have ht:=hq _ _ (getElem?_eq_getElem hj)
   rw [hz] at ht
   have hE:TriE NS nds F (B+1) (r+Ya (ZC y) B * 4 ^ B) 0:=by
    cases d with
    | zero=>exact ht
    | succ d =>
     rcases ht with h | ⟨qs',h,_⟩
     ·exact h
     ·rw [h0] at h;cases h
   rcases hE with ⟨_,_,h3⟩ | ⟨m',ps',e,_⟩
   ·rw [h3 y Y I]
    refine (ZeN fun p hp e=>z ?_).symm
    rw [XH (N.lo y Y),<- hm2,<- e,G.mrk p hp]
   ·rw [h0] at e;cases e
theorem ZaI {d z r B:Nat}(I:nds[B]?=some (.fork qs))(G:qs.length=4)(J:∀(i q:Nat),qs[i]?=some q->Tri NS nds F d (z+1) (r+i * 4 ^ z) q):Tri NS nds F (d+1) z r B:=.inr ⟨qs,I,G,J⟩
end
theorem ZkK {K:Qa}(z:X.K=K):IxR X (rIxT K):=by subst z;exact ZK
section
variable {P:Qk}{w:Qs}{K:Qa}{mg:Str->Option Qc}{base:Heap}{C Pl:Addr}{NS:List Str}
def Zbx (K:Qa)(C Pl:Addr)(NS:List Str):Nat->Sp
 | 0=>fun _ _ _ _=>False
 | d+1=>fun vs H Q _=>∃ (st ln dt:Addr) (nds:List Nd) (tabs:List (Zn×V)) (num lev r:Nat) (x:Str) (v0:V) (F:Str->Option V),vs=[.ref st,iN num,iN lev,.str x]/\StoreAt K C st ln dt H nds tabs/\nds[0]?=some .bare/\Tri NS nds F d lev r num/\r < 4 ^ lev/\lev+d=5/\x∈NS/\XC x % 4 ^ lev=r/\F x=some v0/\nds.length+d+1<=100000/\LamAt H Pl YM XL /\
  ∀ (H':Hp) (nds':List Nd) (num':Nat),StoreAt K C st ln dt H' nds' tabs->NEx nds nds'->nds'.length<=nds.length+d+1->Tri NS nds' (dnF F x) d lev r num'->LamAt H' Pl YM XL->Kq [ln,Pl] H H'->TF H H'->Q (iN num') H'
abbrev nTk:List Str:=["self","number","level","name"]
abbrev nTa:List Str:=["self","number","level","name","node","left","parts","figure","filled"]
theorem scTk:Zo nTa nTk (Zi c_Store_taken_from):={}
theorem ZmC {d k:Nat}(N:YE NS)(hk:2<=k)(F:Fun K "taken_from" "Store.taken_from" c_Store_taken_from f fd)(T:Txt K mg)(TC:XD K C)(DH:Def P w K mg base 1 "has_mark" ["node","number"] (UM K))(DP:Def P w K mg base 1 "parts_in" ["node"] (Ua K))(DR:Def P w K mg base 1 "pairs_in" ["node"] (Wi K))(DM:Def P w K mg base 1 "mark" ["name"] Wv)(DG:Def P w K mg base 1 "digit" ["number","level"] Wh)(DL:Def P w K mg base 2 "leaf_of" ["pairs"] (UO K Pl YM))(DO:Def P w K mg base 1 "fork_of" ["parts"] (WE K))(DK:DefM P w K mg base 1 C "keep" ["self","node"] (UN K C))(DI:DefM P w K mg base k C "taken_from" nTk (Zbx K C Pl NS d)):FnOk P w K mg base ZI (k+1) f fd nTk (Zbx K C Pl NS (d+1)):=by
 refine F.ok scTk (fun cdv A outer s H vs Q E hr h=>?_)
 obtain ⟨st,ln,dt,nds,tabs,num,J,r,x,v0,Fm,rfl,S,h0,htri,hrl,hlev,hx,hxr,hFx,hlen,hL,q⟩:=h
 obtain ⟨tz,hz⟩:=T.zero
 have hr1:=hr.mono (show 1<=k by omega)
 have hr2:=hr.mono hk
 refine' ⟨?t,?h,?r⟩
 case h =>
  conv=>arg 2;whnf
  with_reducible refine' Zf ?a1 (Zf (ZZ ?a2 (Zf ?c1 (Zg ?c2)) ZS) (Zf ?a3 (Zf ?a4 (Zf ?a5 (Zf ?a6 (Zf (ZZ ?a7 (Zg ?a8) ZS) (Zg ?a9)))))))
  case a1=>exact Zs (i:=4) scTk.nd rfl (Qy rfl) (Zk Zt (ZX (pv 0) rfl) (pv 1) (fun _ _=>rfl))
  case a2=>exact Xm (Zy DH hr1 (Zb (pv 4) (Zb (Zy DM hr1 (Zb (pv 3) Za)) Za)))
  case c1=>exact Zah (i:=5) (CompOk.of nTa c_Store_taken_from rfl rfl (by decide +kernel)) rfl scTk.nd rfl (Qy rfl) (Zbo (Zy DR hr1 (Zb (pv 4) Za))) (fun _ _ _ _ _=>ZG Vh (Zk (ZkK (K:=K) rfl) (pv 9) Zc (fun _ _=>rfl)) (pv 3) (ZA _)) (fun _ _ _ _ _=>pv 9) rfl
  case c2=>exact Zl (XF (Vl (pv 5) (fun _=>rfl)) (Yo DK TC.cl hr1 (pv 0) (Zb (Zy DL hr2 (Zb (pv 5) Za)) Za)) (Xy rfl hz (v:=.int 0) ⟨_,rfl⟩))
  case a3=>exact Zs (i:=6) scTk.nd rfl (Qy rfl) (ZQ Xj rfl T.list (by decide +kernel) (Zb (Zy DP hr1 (Zb (pv 4) Za)) Za))
  case a4=>exact Zs (i:=7) scTk.nd rfl (Qy rfl) (Zy DG hr1 (Zb (Zy DM hr1 (Zb (pv 3) Za)) (Zb (pv 2) Za)))
  case a5=>exact XX (Yo DI TC.cl hr (pv 0) (Zb (Zk Zt (pv 6) (pv 7) (fun _ _=>rfl)) (Zb (Zp Yf (pv 2) Zc) (Zb (pv 3) Za)))) (Zbn (pv 6) (pv 7) Vm)
  case a6=>exact Zah (i:=8) (CompOk.of nTa c_Store_taken_from rfl rfl (by decide +kernel)) rfl scTk.nd rfl (Qy rfl) (ZbO (pv 6)) (fun _ _ _ _ _=>ZG Vh (pv 9) (Xy rfl hz (v:=.int 0) ⟨_,rfl⟩) (ZA _)) (fun _ _ _ _ _=>pv 9) rfl
  case a7=>exact PW.pt (ZdR (ZG ZY (Zu ZH rfl T.len QC (Zb (pv 8) Za)) Zc (ZA _)) (ZbQ (Vl (Zy DR hr1 (Zb (Zk Zt (ZX (pv 0) rfl) (Zk Zt (pv 8) Zc (fun _ _=>rfl)) (fun _ _=>rfl)) Za)) (fun _=>rfl))))
  case a8=>exact Zl (Zk Zt (pv 8) Zc (fun _ _=>rfl))
  case a9=>exact Zl (Yo DK TC.cl hr1 (pv 0) (Zb (Zy DO hr1 (Zb (pv 6) Za)) Za))
 try dsimp only [Yz,Cx.nox]
 refine zs8 ?_
 intro zD zS zN7 zN6 zN5 zN4 zN3 zN2 zN1
 obtain ⟨n,hn,hbare⟩:=ZaJ htri
 obtain ⟨as,a,nl,ha,hna⟩:=S.node hn
 obtain ⟨dx,ob⟩:=S.ob
 obtain ⟨tb,htb⟩:=hL.tbl
 have hst:st ∉ [Pl]:=fun z=>by rw [mem_singleton.mp z,htb] at ob;cases ob
 have hln:ln ∉ [Pl]:=fun z=>by rw [mem_singleton.mp z,htb] at nl;cases nl
 have hdt:dt ∉ [Pl]:=fun z=>by have e:=S.tb;rw [mem_singleton.mp z,htb] at e;cases e
 refine ⟨_,rfl,st,C,dx,_,_,rfl,ob,TC.cl,TC.nN,XQ ln dt,_,rfl,ln,_,_,_,rfl,rfl,SqL.of nl,Zm (by rw [getElem?_map,ha];rfl),?_⟩
 refine ⟨_,rfl,_,rfl,x,rfl,N.len x hx,fun H1 s1=>⟨a,n,ZC x,rfl,hna.tf s1.tf,_,rfl,?_⟩⟩
 rcases ZhV htri hn hx hxr hFx with ⟨ps,rfl,G,hF⟩ | ⟨qs,d',rfl,rfl,hq4,hqs⟩
 ·rw [show (Nd.leaf (ZC x) ps).hasM (ZC x)=true from decide_eq_true rfl]
  refine ZF ?_
  refine ⟨_,rfl,a,_,rfl,hna.tf s1.tf,fun pt H2 s2 hpt=>?_⟩
  obtain ⟨o,ts,ept,hod,hlts,hp⟩:=hpt
  have hlts':ts.length=ps.length:=hlts
  have s12:=s1.trans s2
  have hfw:=N.few
  have hgf:=G.few
  refine ⟨pt,rfl,⟨_,.inl (.inr ⟨o,ept⟩)⟩,fun D hD=>?_⟩
  have hD0:H D=none:=by
   cases e:H D with
   | none=>rfl
   | some o=>rw [s12 _ _ e] at hD;cases hD
  have hzl:(ts.zip ps).length=ts.length:=by rw [Rv,hlts',Nh]
  have hzs:(ts.zip ps).map (·.2)=ps:=List.map_snd_zip (by omega)
  refine ZgD (K:=K) (a:=pt) (xs:=ts.map V.ref) (by rw [length_map];exact Qo (show ts.length<=64 by omega) (by decide))
   (fun i ys H'=>ys=(((ts.zip ps).take i).filter fun z=>!decide (z.2.1=x)).map (fun z=>V.ref z.1)/\H' D=some (.lst ys)/\Same H2 H') ⟨rfl,Zh,Zv hD _⟩ ?_ ?_ ?_
  ·rintro i ys H' ⟨rfl,_,s'⟩
   refine ⟨?_,.inl (.inr ⟨o,s' _ _ ept⟩)⟩
   rw [length_map]
   exact Qo (Pj _ _) (by rw [length_take];exact NY _ _)
  ·rintro i v ys H' hi ⟨rfl,hDl,s'⟩
   have hit:i < ts.length:=by have:=(Qj.mp hi).1;rwa [length_map] at this
   have et:=getElem?_eq_getElem hit
   have ep:=getElem?_eq_getElem (show i < ps.length by omega)
   generalize ts[i]=ti at et
   generalize ps[i]=pi at ep
   have hv:V.ref ti=v:=by rw [getElem?_map,et] at hi;exact Qu hi
   subst hv
   have ez:(ts.zip ps)[i]?=some (ti,pi):=Gn.mpr ⟨et,ep⟩
   have htup:=s' _ _ (hp i ti pi et ep)
   have hts:=NH (fun z:Addr×(Str×V)=>!decide (z.2.1=x)) (ts.zip ps) i (ti,pi) ez
   refine ⟨_,rfl,ti,_,_,_,rfl,rfl,SqT.of htup,rfl,_,rfl,rfl,_,rfl,?_⟩
   have edx:(!decide (V.str pi.1=V.str x))=!decide (pi.1=x):=by
    by_cases z:pi.1=x
    ·rw [z,decide_eq_true rfl,decide_eq_true rfl]
    ·rw [decide_eq_false z,decide_eq_false fun y=>z (V.str.inj y)]
   rw [edx]
   by_cases z:pi.1=x
   ·rw [decide_eq_true z]
    refine Zz ⟨?_,hDl,s'⟩
    rw [hts]
    show _=List.map _ (_++if (!decide (pi.1=x))=true then [(ti,pi)] else [])
    rw [decide_eq_true z]
    simp
   ·rw [decide_eq_false z]
    refine ZF ⟨_,rfl,hDl,?_,Zh,fun b u e=>by rw [Zj (Zx e hD)];exact s' _ _ e⟩
    rw [hts]
    show _=List.map _ (_++if (!decide (pi.1=x))=true then [(ti,pi)] else [])
    rw [decide_eq_false z]
    simp
  ·rintro ys H5 ⟨rfl,hD5,s5⟩
   rw [length_map,<- hzl,SF] at hD5
   have hlp:((ts.zip ps).filter fun z=>!decide (z.2.1=x)).map (·.2)=Xc ps x:=by
    unfold Xc
    conv=>rhs;rw [<- hzs]
    rw [NZ];rfl
   have hlt:((ts.zip ps).filter fun z=>!decide (z.2.1=x)).map (fun z=>V.ref z.1)=(((ts.zip ps).filter fun z=>!decide (z.2.1=x)).map (·.1)).map V.ref:=by rw [map_map];rfl
   have s15:Same H H5:=s12.trans s5
   have hPT:PairT H5 (((ts.zip ps).filter fun z=>!decide (z.2.1=x)).map (·.1)) (Xc ps x):=by
    refine ⟨by rw [<- hlp,length_map,length_map],fun i b p e1 e2=>?_⟩
    rw [<- hlp,getElem?_map] at e2
    rw [getElem?_map] at e1
    cases ez:((ts.zip ps).filter fun z=>!decide (z.2.1=x))[i]? with
    | none=>rw [ez] at e1;cases e1
    | some z =>
     rw [ez] at e1 e2
     cases (show some z.1=some b from e1)
     cases (show some z.2=some p from e2)
     obtain ⟨j,hj⟩:=Jw.mp (PP.mp (mem_of_getElem? ez)).1
     obtain ⟨h1,h2⟩:=Gn.mp hj
     exact s5 _ _ (hp j _ _ h1 h2)
   refine ⟨_,rfl,_,.inl ⟨_,SqL.of hD5,rfl⟩,?_⟩
   by_cases Y:Xc ps x=[]
   ·have:((ts.zip ps).filter fun z=>!decide (z.2.1=x))=[]:=by
     have:=congrArg Sa hlp
     rw [Y,length_map] at this
     exact Jf.mp this
    rw [this]
    exact Zz (q H5 nds 0 (S.keep s15) (NEx.refl _) (by omega) (ZjP d h0 Y hF) (LamAt.same hL s15) (Same.kq s15) s15.tf)
   ·have G2:=G.but Y
    have hne:(!(((ts.zip ps).filter fun z=>!decide (z.2.1=x)).map (fun z=>V.ref z.1)).isEmpty)=true:=by
     cases e:((ts.zip ps).filter fun z=>!decide (z.2.1=x)) with
     | nil=>rw [e] at hlp;exact absurd hlp.symm Y
     | cons _ _=>rfl
    rw [hne]
    have S5:=S.keep s15
    obtain ⟨dx5,ob5⟩:=S5.ob
    refine ZF ⟨_,rfl,st,dx5,_,rfl,ob5,Yb ln dt (by decide +kernel) (by decide +kernel),_,rfl,D,_,Xc ps x,rfl,by rw [hD5,hlt],hPT,Y,by have:=G2.few;omega,fun p hp=>N.len _ (G2.sub p hp),LamAt.same hL s15,fun a6 H6 p1 pr g6 L6 perm6 sort6 node6=>?_⟩
    have tb5:H5 Pl=some (.tbl tb):=s15 _ _ htb
    have tf6:TF H5 H6:=g6.tf tb5
    have S6:=S5.kq g6.kq tf6 hst hln hdt
    refine ⟨st,ln,dt,a6,nds,tabs,_,rfl,S6,node6,by omega,fun H7 S7 k7 tf7=>?_⟩
    have nl6:∃ xs,H6 ln=some (.lst xs):=by obtain ⟨as6,e6,_⟩:=S6.nl;exact ⟨_,e6⟩
    have hmk:ZC p1.1=ZC x:=(G2.perm perm6).mrk p1 mem_cons_self
    rw [hmk] at S7
    refine q H7 _ nds.length S7 (NEx.app nds _) (by rw [length_append];show nds.length+1<=_;omega) ?_ (L6.kq k7 fun b Y=>by rw [mem_singleton.mp Y];exact nl6) ?_ ((s15.tf.trans tf6).trans tf7)
    ·exact ZjR d hxr (by rw [getElem?_append_right (Qf _),Jn];rfl) G2 perm6 hF
    ·exact (Same.kq s15).trans ((g6.kq.sub fun b Y=>by simp at Y ⊢;exact .inr Y).trans (k7.sub fun b Y=>by simp at Y ⊢;exact .inl Y))
 ·refine Zz ?_
  refine ⟨_,rfl,a,_,rfl,hna.tf s1.tf,fun pt H2 s2 hpt=>⟨pt,_,rfl,.inr hpt,fun rl hrl1=>?_⟩⟩
  have s12:=s1.trans s2
  have W:H rl=none:=by
   cases e:H rl with
   | none=>rfl
   | some o=>rw [s12 _ _ e] at hrl1;cases hrl1
  refine ⟨_,rfl,x,rfl,N.len x hx,fun H3 s3=>⟨_,rfl,ZC x,J,rfl,N.lo x hx,by omega,?_⟩⟩
  have el3:H3 rl=some (.lst (qs.map iN)):=s3 _ _ Zh
  have s13:Same H H3:=(s12.trans (Zv hrl1 _)).trans s3
  have S3:=S.keep s13
  have hdl:Ya (ZC x) J < qs.length:=by rw [hq4];exact Ud _ _
  have hq1:=getElem?_eq_getElem hdl
  generalize qs[Ya (ZC x) J]=q1 at hq1
  have hat:YR (qs.map iN) (ZC x / 4 ^ J % 4)=some (iN q1):=by rw [<- Wy];exact Zm (by rw [getElem?_map,hq1];rfl)
  obtain ⟨dx3,ob3⟩:=S3.ob
  refine ⟨_,rfl,st,dx3,_,rfl,ob3,Yb ln dt (by decide +kernel) (by decide +kernel),_,rfl,_,rfl,rl,_,_,_,rfl,rfl,SqL.of el3,hat,_,rfl,_,_,rfl,rfl,_,rfl,?_⟩
  refine ⟨st,ln,dt,nds,tabs,q1,J+1,_,x,v0,Fm,rfl,S3,h0,hqs _ _ hq1,UK hrl (Ud _ _),by omega,hx,by rw [WY,hxr,XH (N.lo x hx)];rfl,hFx,by omega,LamAt.same hL s13,fun H5 B Z S5 ext5 len5 tri5 L5 kq5 tf5=>?_⟩
  have nrl:rl ∉ [ln,Pl]:=fun z=>by
   rcases mem_cons.mp z with z | z
   ·rw [z,nl] at W;cases W
   ·rw [mem_singleton.mp z,htb] at W;cases W
  have el5:=kq5 _ _ nrl el3
  have hix:Wo (qs.map iN).length (ZC x / 4 ^ J % 4)=some (Ya (ZC x) J):=by
   rw [<- Wy,length_map]
   unfold Wo
   rw [if_pos (by omega),if_pos (by omega)]
   rfl
  refine ⟨_,rfl,_,rfl,rl,_,_,_,rfl,rfl,el5,hix,?_⟩
  have tf6:=Zek (o:=.lst ((qs.map iN).set (Ya (ZC x) J) (iN Z))) el5
  have k6:Kq [rl] H5 (upd H5 rl (.lst ((qs.map iN).set (Ya (ZC x) J) (iN Z)))):=Zbg
  have nst:st ∉ [rl]:=fun z=>by rw [<- mem_singleton.mp z,ob] at W;cases W
  have nln:ln ∉ [rl]:=fun z=>by rw [<- mem_singleton.mp z,nl] at W;cases W
  have ndt:dt ∉ [rl]:=fun z=>by rw [<- mem_singleton.mp z,S.tb] at W;cases W
  have S6:=S5.kq k6 tf6 nst nln ndt
  have el6:upd H5 rl (.lst ((qs.map iN).set (Ya (ZC x) J) (iN Z))) rl=some (.lst ((qs.set (Ya (ZC x) J) Z).map iN)):=by rw [Zh,List.map_set]
  have L6:=L5.kq k6 fun b Y=>by rw [mem_singleton.mp Y];exact ⟨_,el5⟩
  have kh:Kq [ln,Pl] H (upd H5 rl (.lst ((qs.map iN).set (Ya (ZC x) J) (iN Z)))):=fun b o nb e=>by
   rw [Zj (Zx e W)];exact kq5 _ _ nb (s13 _ _ e)
  generalize upd H5 rl (.lst ((qs.map iN).set (Ya (ZC x) J) (iN Z)))=H6 at *
  have hps:∀ (i q:Nat),(qs.set (Ya (ZC x) J) Z)[i]?=some q->Tri NS B (dnF Fm x) d' (J+1) (r+i * 4 ^ J) q:=fun i q hi=>Zhn N hrl hx hxr hq4 hqs ext5 tri5 (fun y hy=>if_neg hy) i q hi
  have hp4:(qs.set (Ya (ZC x) J) Z).length=4:=by rw [length_set,hq4]
  generalize qs.set (Ya (ZC x) J) Z=qn at *
  have h05:=ext5 _ _ h0
  have tfh:TF H H6:=(s13.tf.trans tf5).trans tf6
  refine ⟨_,rfl,rl,rfl,⟨_,SqL.of el6⟩,fun D hD=>?_⟩
  refine Zfw (K:=K) (a:=rl) (xs:=qn.map iN) (by rw [length_map,hp4];decide)
   (fun i ys H'=>ys=((qn.take i).filter fun p=>!decide (p=0)).map iN/\H' D=some (.lst ys)/\Same H6 H') ⟨rfl,Zh,Zv hD _⟩ ?_ ?_ ?_
  ·rintro i ys H' ⟨rfl,_,s'⟩
   refine ⟨?_,SqL.of (s' _ _ el6)⟩
   rw [length_map]
   exact Qo (Pj _ _) (by rw [length_take];exact NY _ _)
  ·rintro i v ys H' hi ⟨rfl,hDl,s'⟩
   have hit:i < qn.length:=by have:=(Qj.mp hi).1;rwa [length_map] at this
   have et:=getElem?_eq_getElem hit
   generalize qn[i]=qi at et
   have hv:iN qi=v:=by rw [getElem?_map,et] at hi;exact Qu hi
   subst hv
   have hts:=NH (fun p:Nat=>!decide (p=0)) qn i qi et
   refine ⟨_,rfl,rfl,_,rfl,?_⟩
   have edx:(!decide (iN qi=V.int 0))=!decide (qi=0):=by
    by_cases z:qi=0
    ·rw [z];rfl
    ·rw [decide_eq_false z,decide_eq_false fun y=>z (by have:=V.int.inj y;omega)]
   rw [edx]
   by_cases z:qi=0
   ·rw [decide_eq_true z]
    refine Zz ⟨?_,hDl,s'⟩
    rw [hts]
    show _=List.map _ (_++if (!decide (qi=0))=true then [qi] else [])
    rw [decide_eq_true z]
    simp
   ·rw [decide_eq_false z]
    refine ZF ⟨_,rfl,hDl,?_,Zh,fun b u e=>by rw [Zj (Zx e hD)];exact s' _ _ e⟩
    rw [hts]
    show _=List.map _ (_++if (!decide (qi=0))=true then [qi] else [])
    rw [decide_eq_false z]
    simp
  ·rintro ys H7 ⟨rfl,hD7,s7⟩
   rw [length_map,SF] at hD7
   generalize hfl:(qn.filter fun p=>!decide (p=0))=fl at hD7
   have S7:=S6.keep s7
   refine ⟨_,rfl,D,_,rfl,.inl (SqL.of hD7),rfl,_,rfl,?_⟩
   by_cases h1:fl.length=1
   ·obtain ⟨q8,rfl⟩:∃ q8,fl=[q8]:=by
     cases fl with
     | nil=>cases h1
     | cons b t=>cases t with
      | nil=>exact ⟨b,rfl⟩
      | cons _ _=>simp at h1
    obtain ⟨i8,hi8,hq80,_⟩:=ZaY hfl
    obtain ⟨n8,hn8,_⟩:=ZaJ (hps i8 q8 hi8)
    obtain ⟨as8,a8,nl8,ha8,hna8⟩:=S7.node hn8
    obtain ⟨dx8,ob8⟩:=S7.ob
    refine ZF ⟨_,rfl,st,C,dx8,_,_,rfl,ob8,TC.cl,TC.nN,XQ ln dt,_,rfl,D,_,_,_,rfl,rfl,SqL.of hD7,(show YR ([q8].map iN) ((0:Nat):Int)=some (iN q8) from Zm rfl),ln,_,_,_,rfl,rfl,SqL.of nl8,Zm (by rw [getElem?_map,ha8];rfl),a8,n8,rfl,hna8,fun pt9 H9 s9 hpt9=>?_⟩
    obtain ⟨o9,ts9,ept9,_,hl9,_⟩:=hpt9
    refine ⟨_,.inr (.inl ⟨_,.inl (.inr ⟨o9,ept9⟩),rfl⟩),?_⟩
    have I:=s7.trans s9
    cases n8 with
    | leaf m8 ps8 =>
     have hne:(!(ts9.map V.ref).isEmpty)=true:=by
      cases ts9 with
      | nil =>
       have hE:TriE NS B (dnF Fm x) (J+1) (r+i8 * 4 ^ J) q8:=by
        have:=hps i8 q8 hi8
        cases d' with
        | zero=>exact this
        | succ d' =>
         rcases this with h | ⟨qs',h,_⟩
         ·exact h
         ·rw [hn8] at h;cases h
       rcases hE with ⟨z,_⟩ | ⟨m',ps',e,G,_⟩
       ·exact absurd z hq80
       ·rw [hn8] at e;cases e
        exact absurd (Jf.mp (show ps8.length=0 from hl9.symm)) G.ne
      | cons _ _=>rfl
     rw [hne]
     refine ZF ⟨_,rfl,D,_,_,_,rfl,rfl,SqL.of (s9 _ _ hD7),(show YR ([q8].map iN) ((0:Nat):Int)=some (iN q8) from Zm rfl),?_⟩
     exact q H9 B q8 (S6.keep I) ext5 (by omega) (Znj N h05 hrl hp4 hps hfl hn8) (LamAt.same L6 I) (kh.trans (Same.kq I)) (tfh.trans I.tf)
    | bare =>
     rw [Jf.mp (show ts9.length=0 from hl9)]
     refine Zz ?_
     obtain ⟨dxA,obA⟩:=(S6.keep I).ob
     refine ⟨_,rfl,st,dxA,_,rfl,obA,Yb ln dt (by decide +kernel) (by decide +kernel),_,rfl,rl,qn,rfl,I _ _ el6,hp4,fun aB HB sB nodeB=>?_⟩
     have SB:=(S6.keep I).keep sB
     refine ⟨st,ln,dt,aB,B,tabs,_,rfl,SB,nodeB,by omega,fun HC SC kC tfC=>?_⟩
     have nlB:∃ xs,HB ln=some (.lst xs):=by obtain ⟨asB,eB,_⟩:=SB.nl;exact ⟨_,eB⟩
     refine q HC _ B.length SC (ext5.trans (NEx.app B _)) (by rw [length_append];show B.length+1<=_;omega) ?_ ((LamAt.same (LamAt.same L6 I) sB).kq kC fun b Y=>by rw [mem_singleton.mp Y];exact nlB) ?_ (((tfh.trans I.tf).trans sB.tf).trans tfC)
     ·exact ZaI (by rw [getElem?_append_right (Qf _),Jn];rfl) hp4 fun i q hi=>Tri.mono d' (hps i q hi) (NEx.app B _)
     ·exact ((kh.trans (Same.kq I)).trans (Same.kq sB)).trans (kC.sub fun b Y=>by simp at Y ⊢;exact .inl Y)
    | fork qs8 =>
     rw [Jf.mp (show ts9.length=0 from hl9)]
     refine Zz ?_
     obtain ⟨dxA,obA⟩:=(S6.keep I).ob
     refine ⟨_,rfl,st,dxA,_,rfl,obA,Yb ln dt (by decide +kernel) (by decide +kernel),_,rfl,rl,qn,rfl,I _ _ el6,hp4,fun aB HB sB nodeB=>?_⟩
     have SB:=(S6.keep I).keep sB
     refine ⟨st,ln,dt,aB,B,tabs,_,rfl,SB,nodeB,by omega,fun HC SC kC tfC=>?_⟩
     have nlB:∃ xs,HB ln=some (.lst xs):=by obtain ⟨asB,eB,_⟩:=SB.nl;exact ⟨_,eB⟩
     refine q HC _ B.length SC (ext5.trans (NEx.app B _)) (by rw [length_append];show B.length+1<=_;omega) ?_ ((LamAt.same (LamAt.same L6 I) sB).kq kC fun b Y=>by rw [mem_singleton.mp Y];exact nlB) ?_ (((tfh.trans I.tf).trans sB.tf).trans tfC)
     ·exact ZaI (by rw [getElem?_append_right (Qf _),Jn];rfl) hp4 fun i q hi=>Tri.mono d' (hps i q hi) (NEx.app B _)
     ·exact ((kh.trans (Same.kq I)).trans (Same.kq sB)).trans (kC.sub fun b Y=>by simp at Y ⊢;exact .inl Y)
   ·have hd1:decide (V.int (((fl.map iN).length:Nat):Int)=V.int 1)=false:=decide_eq_false fun z=>h1 (by have:=V.int.inj z;rw [length_map] at this;omega)
    rw [hd1]
    have I:=s7
    refine Zz (Zz ?_)
    obtain ⟨dxA,obA⟩:=(S6.keep I).ob
    refine ⟨_,rfl,st,dxA,_,rfl,obA,Yb ln dt (by decide +kernel) (by decide +kernel),_,rfl,rl,qn,rfl,I _ _ el6,hp4,fun aB HB sB nodeB=>?_⟩
    have SB:=(S6.keep I).keep sB
    refine ⟨st,ln,dt,aB,B,tabs,_,rfl,SB,nodeB,by omega,fun HC SC kC tfC=>?_⟩
    have nlB:∃ xs,HB ln=some (.lst xs):=by obtain ⟨asB,eB,_⟩:=SB.nl;exact ⟨_,eB⟩
    refine q HC _ B.length SC (ext5.trans (NEx.app B _)) (by rw [length_append];show B.length+1<=_;omega) ?_ ((LamAt.same (LamAt.same L6 I) sB).kq kC fun b Y=>by rw [mem_singleton.mp Y];exact nlB) ?_ (((tfh.trans I.tf).trans sB.tf).trans tfC)
    ·exact ZaI (by rw [getElem?_append_right (Qf _),Jn];rfl) hp4 fun i q hi=>Tri.mono d' (hps i q hi) (NEx.app B _)
    ·exact ((kh.trans (Same.kq I)).trans (Same.kq sB)).trans (kC.sub fun b Y=>by simp at Y ⊢;exact .inl Y)
theorem ZeT (N:YE NS)(F:Fun K "taken_from" "Store.taken_from" c_Store_taken_from f fd)(T:Txt K mg)(B:XD K C)(J:Def P w K mg base 1 "has_mark" ["node","number"] (UM K))(I:Def P w K mg base 1 "parts_in" ["node"] (Ua K))(Z:Def P w K mg base 1 "pairs_in" ["node"] (Wi K))(Y:Def P w K mg base 1 "mark" ["name"] Wv)(W:Def P w K mg base 1 "digit" ["number","level"] Wh)(G:Def P w K mg base 2 "leaf_of" ["pairs"] (UO K Pl YM))(z:Def P w K mg base 1 "fork_of" ["parts"] (WE K))(DK:DefM P w K mg base 1 C "keep" ["self","node"] (UN K C))(b:Binds K fd nTk [])(mt:Zam K C "taken_from" f):∀ d,FnOk P w K mg base ZI (2+d) f fd nTk (Zbx K C Pl NS d)
 | 0=>F.ok scTk (len:=(fun _ _ _ _ h=>h.elim)) (fun _ _ _ _ _ _ _ _ _ h=>h.elim)
 | d+1=>ZmC N (Jc 2 d) F T B J I Z Y W G z DK ⟨f,fd,ZeT N F T B J I Z Y W G z DK b mt d,b,mt⟩
inductive ZjO (K:Qa)(C Pl:Addr)(NS:List Str)(vs:List V)(H:Hp)(Q:VK)(w_3:XK):Prop
 | mk (st ln dt:Addr) (nds:List Nd) (tabs:List (Zn×V)) (t:Nat) (x:Str) (F:Str->Option V):vs=[.ref st,iN t,.str x]->StoreAt K C st ln dt H nds tabs->nds[0]?=some .bare->(ZN tabs (QY (t:Int))).isSome=true->Tri NS nds F 5 0 0 t->x∈NS->(∀ u,F x=some u->ValV u)->nds.length+6<=100000->tabs.length<=100000->LamAt H Pl YM XL->(∀ (H':Hp) (nds':List Nd) (tabs':List (Zn×V)) (t':Nat),StoreAt K C st ln dt H' nds' tabs'->NEx nds nds'->nds'.length<=nds.length+6->tabs'.length<=tabs.length+1->(∀ k,(ZN tabs k).isSome=true->(ZN tabs' k).isSome=true)->(ZN tabs' (QY (t':Int))).isSome=true->Tri NS nds' (dnF F x) 5 0 0 t'->LamAt H' Pl YM XL->Kq [ln,dt,Pl] H H'->TF H H'->Q (iN t') H')->ZjO K C Pl NS vs H Q w_3
theorem scWo:Zo ["self","table","name"] ["self","table","name"] (Zi c_Store_without):={}
theorem ZnF (N:YE NS)(F:Fun K "without" "Store.without" c_Store_without f fd)(TC:XD K C)(DLk:DefM P w K mg base 3 C "looked" ["self","table","name"] (Vo K C))(DAs:DefM P w K mg base 1 C "as_table" ["self","number"] (ZcU K C))(DI:DefM P w K mg base 8 C "taken_from" nTk (Zbx K C Pl NS 6)):FnOk P w K mg base ZI 9 f fd ["self","table","name"] (ZjO K C Pl NS):=by
 refine F.ok scWo (fun cdv A outer s H vs Q E hr h=>?_)
 obtain ⟨st,ln,dt,nds,B,t,x,Fm,rfl,S,h0,J,I,hx,hFv,hlen,htl,hL,q⟩:=h
 have hr1:=hr.mono (show 1<=8 by decide)
 have hr3:=hr.mono (show 3<=8 by decide)
 refine' ⟨?t,?h,?r⟩
 case h =>
  conv=>arg 2;whnf
  with_reducible refine' Zf (ZZ ?a1 (Zg ?a2) ZS) (Zg ?a3)
  case a1=>exact UI (UH (Yo DLk TC.cl hr3 (pv 0) (Zb (pv 1) (Zb (pv 2) Za))))
  case a2=>exact Zl (pv 1)
  case a3=>exact Zl (Yo DAs TC.cl hr1 (pv 0) (Zb (Yo DI TC.cl hr (pv 0) (Zb (pv 1) (Zb Zc (Zb (pv 2) Za)))) Za))
 try dsimp only [Yz,Cx.nox]
 refine zs2 ?_
 intro zD zS zN1
 obtain ⟨dx,ob⟩:=S.ob
 obtain ⟨ws,e,n,e1,e2,e3,e4,e5⟩:=Zby N I hx
 refine ⟨_,rfl,st,dx,_,rfl,ob,Yb ln dt (by decide +kernel) (by decide +kernel),_,rfl,_,rfl,st,ln,dt,nds,B,t,x,6,ws,e,n,rfl,S,J,N.len x hx,N.lo x hx,by decide,e1,e2,e3,e4,fun H1 s1=>?_⟩
 rw [e5]
 refine ⟨_,rfl,?_⟩
 have S1:=S.keep s1
 have hL1:=LamAt.same hL s1
 cases eF:Fm x with
 | none =>
  refine ZF ⟨_,rfl,q H1 nds B t S1 (NEx.refl _) (by omega) (by omega) (fun _ h=>h) J (Tri.congr 5 (by decide) I fun y _ _=>?_) hL1 (Same.kq s1) s1.tf⟩
  unfold dnF
  by_cases z:y=x
  ·rw [if_pos z,z,eF]
  ·rw [if_neg z]
 | some u =>
  have hc:decide ((some u).getD .non=V.non)=false:=decide_eq_false (hFv u eF).ne
  rw [hc]
  obtain ⟨dx1,ob1⟩:=S1.ob
  refine Zz ⟨_,rfl,st,dx1,_,rfl,ob1,Yb ln dt (by decide +kernel) (by decide +kernel),_,rfl,st,dx1,_,rfl,ob1,Yb ln dt (by decide +kernel) (by decide +kernel),_,rfl,_,rfl,?_⟩
  refine ⟨st,ln,dt,nds,B,t,0,0,x,u,Fm,rfl,S1,h0,I,by decide,rfl,hx,by rw [Nm,NO],eF,hlen,hL1,fun H2 W G S2 ext2 len2 tri2 L2' kq2 tf2=>?_⟩
  refine ⟨st,ln,dt,W,B,G,rfl,S2,by omega,fun H3 S3 k3 tf3=>?_⟩
  refine q H3 W _ G S3 ext2 len2 (XR _ _ _) (fun k hk=>?_) (by rw [Uj,if_pos rfl];rfl) tri2 ?_ ?_ ((s1.tf.trans tf2).trans tf3)
  ·rw [Uj]
   by_cases z:k=QY (G:Int)
   ·rw [if_pos z];rfl
   ·rw [if_neg z];exact hk
  ·have Z:∀ b∈[dt],∃ xs,H2 b=some (.dK xs):=fun b Y=>by rw [mem_singleton.mp Y];exact ⟨_,S2.tb⟩
   rcases L2' with h | ⟨c,h,h2⟩
   ·exact .inl (k3 _ _ (fun z=>by obtain ⟨_,e⟩:=Z _ z;rw [h] at e;cases e) h)
   ·exact .inr ⟨c,k3 _ _ (fun z=>by obtain ⟨_,e⟩:=Z _ z;rw [h] at e;cases e) h,k3 _ _ (fun z=>by obtain ⟨_,e⟩:=Z _ z;rw [h2] at e;cases e) h2⟩
  ·exact ((Same.kq s1).trans (kq2.sub fun b Y=>by simp at Y ⊢;rcases Y with z | z;exact .inl z;exact .inr (.inr z))).trans (k3.sub fun b Y=>by simp at Y ⊢;exact .inr (.inl Y))
end
section
variable {P:Qk}{w:Qs}{K:Qa}{mg:Str->Option Qc}{base:Heap}{C Pl:Addr}{NS:List Str}
abbrev Xo:Yv:=Zie YM XL
inductive Zbw (K:Qa)(C Pl:Addr)(vs:List V)(H:Hp)(Q:VK)(w_3:XK):Prop
 | mk (NS:List Str) (st:Addr) (nds:List Nd) (tabs:List (Zn×V)) (t:Nat) (x:Str) (v:V) (F:Str->Option V) (Δ:Rs):YE NS->vs=[.ref st,iN t,.str x,v]->Sep ((st,Uk K C nds tabs)::(Pl,Xo)::Δ) H->(ZN tabs (QY (t:Int))).isSome=true->Tri NS nds F 5 0 0 t->x∈NS->ValV v->(∀ u,F x=some u->ValV u)->nds.length+6<=100000->tabs.length<=100000->(∀ (H':Hp) (nds':List Nd) (tabs':List (Zn×V)) (t':Nat),Sep ((st,Uk K C nds' tabs')::(Pl,Xo)::Δ) H'->NEx nds nds'->nds'.length<=nds.length+6->tabs'.length<=tabs.length+1->(∀ k,(ZN tabs k).isSome=true->(ZN tabs' k).isSome=true)->(ZN tabs' (QY (t':Int))).isSome=true->Tri NS nds' (upF F x v) 5 0 0 t'->Q (iN t') H')->Zbw K C Pl vs H Q w_3
inductive ZcW (K:Qa)(C Pl:Addr)(vs:List V)(H:Hp)(Q:VK)(w_3:XK):Prop
 | mk (NS:List Str) (st:Addr) (nds:List Nd) (tabs:List (Zn×V)) (t:Nat) (x:Str) (F:Str->Option V) (Δ:Rs):YE NS->vs=[.ref st,iN t,.str x]->Sep ((st,Uk K C nds tabs)::(Pl,Xo)::Δ) H->(ZN tabs (QY (t:Int))).isSome=true->Tri NS nds F 5 0 0 t->x∈NS->(∀ u,F x=some u->ValV u)->nds.length+6<=100000->tabs.length<=100000->(∀ (H':Hp) (nds':List Nd) (tabs':List (Zn×V)) (t':Nat),Sep ((st,Uk K C nds' tabs')::(Pl,Xo)::Δ) H'->NEx nds nds'->nds'.length<=nds.length+6->tabs'.length<=tabs.length+1->(∀ k,(ZN tabs k).isSome=true->(ZN tabs' k).isSome=true)->(ZN tabs' (QY (t':Int))).isSome=true->Tri NS nds' (dnF F x) 5 0 0 t'->Q (iN t') H')->ZcW K C Pl vs H Q w_3
theorem ZnG {k:Nat}(h:∀ NS,YE NS->FnOk P w K mg base ZI k f fd ps (Zgl K C Pl NS)):FnOk P w K mg base ZI k f fd ps (Zbw K C Pl) :=
 (FnOk.ex h).conv fun vs H Q E zz=>by
  obtain ⟨NS,st,nds,B,t,x,v,F,Δ,N,e,S,h1,h2,h3,h4,h5,Y,Z,q⟩:=zz
  obtain ⟨J,dt,SA,b0,L,G⟩:=S.stoLam
  exact ⟨NS,N,st,J,dt,nds,B,t,x,v,F,e,SA,b0,h1,h2,h3,h4,h5,Y,Z,L,fun H' nds' z t' W ext len tl mono tok I L' kq tf=>q H' nds' z t' (G H' nds' z W (ext _ _ b0) L' kq) ext len tl mono tok I⟩
theorem wo_S {k:Nat}(h:∀ NS,YE NS->FnOk P w K mg base ZI k f fd ps (ZjO K C Pl NS)):FnOk P w K mg base ZI k f fd ps (ZcW K C Pl) :=
 (FnOk.ex h).conv fun vs H Q E zz=>by
  obtain ⟨NS,st,nds,B,t,x,F,Δ,N,e,S,h1,h2,h3,h4,Z,Y,q⟩:=zz
  obtain ⟨J,dt,SA,b0,L,G⟩:=S.stoLam
  exact ⟨NS,N,st,J,dt,nds,B,t,x,F,e,SA,b0,h1,h2,h3,h4,Z,Y,L,fun H' nds' z t' W ext len tl mono tok I L' kq tf=>q H' nds' z t' (G H' nds' z W (ext _ _ b0) L' kq) ext len tl mono tok I⟩
inductive VU (K:Qa)(C:Addr)(vs:List V)(H:Hp)(Q:VK)(w_3:XK):Prop
 | mk (p dx:Addr) (H0:Hp) (Δ:Rs):vs=[.ref p]->H=upd (upd H0 dx (.own p)) p (.ins C dx [])->H0 p=none->H0 dx=none->dx≠p->Sep Δ H0->(∀ H',Same H0 H'->Sep ((p,Uk K C [.bare] [(QY 0,.bl true)])::Δ) H'->Q .non H')->VU K C vs H Q w_3
theorem Zmk (h:VU K C vs H Q E):Zea K C vs H Q E:=by
 obtain ⟨p,dx,I,Δ,e,rfl,h1,h2,h3,S,q⟩:=h
 refine ⟨p,dx,e,Zh,fun ln dt H' Y W J kq=>?_⟩
 have sH:Same I (upd (upd I dx (.own p)) p (.ins C dx [])):=(Zv h2 _).trans (Zv (by rw [Zj h3.symm];exact h1) _)
 have s0:Same I H':=fun b o e=>kq b o (by simp only [mem_singleton];exact Zx e h1) (sH b o e)
 refine q H' s0 ?_
 have n1:=Uq sH Y
 have n2:=Uq sH W
 obtain ⟨Z,ob⟩:=J.ob
 obtain ⟨as,nl,B,G⟩:=J.nl
 refine ⟨some_of H' [p,ln,dt],WZ,⟨rfl,ln,dt,⟨⟨Z,by rw [Wg (by simp)];exact ob⟩,⟨as,by rw [Wg (by simp)];exact nl,B,fun i a n e1 e2=>(G i a n e1 e2).tf Zfb⟩,by rw [Wg (by simp)];exact J.tb⟩⟩,S.mono fun b o e=>cut_some.mpr ⟨s0 _ _ e,fun u z=>?_⟩⟩
 cases m:Yn u with
 | false=>rfl
 | true =>
  have:=WD z m
  simp only [mem_cons,not_mem_nil,or_false] at this
  rcases this with z | z | z
  ·exact absurd z (Zx e h1)
  ·exact absurd z (Zx e n1)
  ·exact absurd z (Zx e n2)
inductive Zec (K:Qa)(C:Addr)(vs:List V)(H:Hp)(Q:VK)(w_3:XK):Prop
 | mk (st:Addr) (nds:List Nd) (tabs:List (Zn×V)):vs=[.ref st]->Uk K C nds tabs st H->Q (.int (nds.length:Int)) H->Zec K C vs H Q w_3
theorem scMd:Zo ["self"] ["self"] (Zi c_Store_made):={}
theorem ZkX (F:Fun K "made" "Store.made" c_Store_made f fd)(T:Txt K mg)(B:XD K C):FnOk P w K mg base ZI 1 f fd ["self"] (Zec K C):=by
 refine F.ok scMd (fun I A outer s H vs Q E hr h=>?_)
 obtain ⟨st,nds,G,rfl,⟨b0,z,Z,⟨⟨dx,Y⟩,⟨as,J,W,hn⟩,tb⟩⟩,q⟩:=h
 refine ⟨_,Zg (Zl (Zu ZH rfl T.len QC (Zb (ZX (pv 0) rfl) Za))),?_⟩
 refine ⟨_,rfl,st,C,dx,_,_,rfl,Y,B.cl,B.nN,XQ z Z,z,_,rfl,.inl (SqL.of J),?_⟩
 rw [length_map,W];exact q
inductive ZbV (K:Qa)(C:Addr)(vs:List V)(H:Hp)(Q:VK)(w_3:XK):Prop
 | mk (v:_):vs=[v]->Q (.int 0) H->ZbV K C vs H Q w_3
theorem scEm:Zo ["self"] ["self"] (Zi c_Store_empty):={}
theorem ZiG (F:Fun K "empty" "Store.empty" c_Store_empty f fd)(T:Txt K mg):FnOk P w K mg base ZI 1 f fd ["self"] (ZbV K C):=by
 refine F.ok scEm (fun z A outer s H vs Q E G h=>?_)
 obtain ⟨v,rfl,q⟩:=h
 obtain ⟨I,B⟩:=T.zero
 exact ⟨_,Zg (Zl (Xy rfl B (v:=.int 0) ⟨_,rfl⟩)),q⟩
end
structure XO (K:Qa)(CR:Addr):Prop where
 cl:Cls K CR
 nk:NoAttr K CR "kept"
 na:NoAttr K CR "aheads"
 ns:NoAttr K CR "steps"
 nt:NoAttr K CR "tables"
 nc:NoAttr K CR "costs"
section
variable {P:Qk}{w:Qs}{K:Qa}{mg:Str->Option Qc}{base:Heap}{CR CS Pl:Addr}{NS:List Str}
theorem ZdT :(UJ st G B lt z).lookup ("kept":Str)=some (V.ref st):=rfl
theorem ZbR :(UJ st z G lt B).lookup ("aheads":Str)=some (V.ref z):=rfl
theorem ZbS :(UJ st G z lt B).lookup ("steps":Str)=some (V.ref z):=rfl
theorem ZjE :(UJ st G B lt z).lookup ("tables":Str)=some (V.ref lt):=rfl
theorem rf_c :(UJ st G B lt z).lookup ("costs":Str)=some (V.ref z):=rfl
theorem Xg (h:[("kept":Str),"aheads","steps","tables","costs"].all (fun k=>!(m == k))=true):(UJ st J G lt B).lookup m=none:=by
 simp only [all_cons,List.all_nil,Bool.and_true,QI,Bool.not_eq_true'] at h
 obtain ⟨h1,h2,W,I,z⟩:=h
 simp [UJ,JB,h1,h2,W,I,z]
abbrev RdR (K:Qa)(CR CS:Addr)(r:Addr)(pls:List ZE)(nds:List Nd)(tabs:List (Zn×V))(H:Hp):Prop:=Wk K CR CS pls nds tabs r H
inductive Zbu (K:Qa)(CR CS:Addr)(vs:List V)(H:Hp)(Q:VK)(w_3:XK):Prop
 | mk (r:Addr) (pls:List ZE) (nds:List Nd) (tabs:List (Zn×V)) (k:Nat):vs=[.ref r,.int (k:Int)]->RdR K CR CS r pls nds tabs H->k<=pls.length->Q .non H->Zbu K CR CS vs H Q w_3
abbrev nRCk:List Str:=["self","place"]
abbrev Zbq:List Str:=["self","place"]
theorem ZnN:Zo nRCk Zbq (Zi c_Roads_check_place):={}
theorem Zld (F:Fun K "check_place" "Roads.check_place" c_Roads_check_place f fd)(T:Yj mg)(z:XO K CR):FnOk P w K mg base ZI 1 f fd Zbq (Zbu K CR CS):=by
 refine F.ok ZnN (fun I A outer s H vs Q E hr h=>?_)
 obtain ⟨r,pls,nds,B,k,rfl,⟨st,G,W,lt,Y,S⟩,Z,q⟩:=h
 obtain ⟨dx,J⟩:=S.get r
 refine' ⟨?t,?h,?r⟩
 case h =>
  conv=>arg 2;whnf
  with_reducible refine' (Zg (ZZ ?h1 (Zg Zkm) ZS))
  case h1=>exact Ws (Zjx Zkk Us Zc (pv 1) (Zu ZH rfl T.len QC (Zb (ZX (pv 0) rfl) Za)))
 refine ⟨_,rfl,_,_,rfl,rfl,_,rfl,?_⟩
 rw [decide_eq_true (show (0:Int)<=(k:Int) by omega)]
 refine ZF ⟨_,rfl,r,CR,dx,_,_,rfl,J,z.cl,z.na,ZbR,G,_,rfl,.inl (SqL.of (S.get G)),_,_,rfl,rfl,_,rfl,?_⟩
 rw [decide_eq_true (show (k:Int) < (((V.non::pls.map fun q=>V.int (q.ah:Int)).length:Nat):Int) by rw [length_cons,length_map];omega)]
 exact Zz q
def ahV (pls:List ZE):Nat->V
 | 0=>.non
 | k+1=>.int (((pls.getD k ⟨0,.clr "",0,0⟩).ah:Nat):Int)
theorem ZlW {k:Nat}(h:k<=pls.length):(V.non::pls.map fun q=>V.int (q.ah:Int))[k]?=some (ahV pls k):=by
 cases k with
 | zero=>rfl
 | succ k =>
  rw [Gu,getElem?_map,getElem?_eq_getElem (show k < pls.length by omega)]
  show some _=some (V.int _)
  rw [getD_eq_getElem?_getD,getElem?_eq_getElem (show k < pls.length by omega)]
  rfl
inductive VS (K:Qa)(CR CS:Addr)(vs:List V)(H:Hp)(Q:VK)(w_3:XK):Prop
 | mk (r:Addr) (pls:List ZE) (nds:List Nd) (tabs:List (Zn×V)) (k:Nat):vs=[.ref r,.int (k:Int)]->RdR K CR CS r pls nds tabs H->k<=pls.length->Q (ahV pls k) H->VS K CR CS vs H Q w_3
abbrev nRAh:List Str:=["self","place"]
abbrev ZcR:List Str:=["self","place"]
theorem ZnM:Zo nRAh ZcR (Zi c_Roads_ahead):={}
theorem ZiC (F:Fun K "ahead" "Roads.ahead" c_Roads_ahead f fd)(T:Yj mg)(G:XO K CR)(z:DefM P w K mg base 1 CR "check_place" Zbq (Zbu K CR CS)):FnOk P w K mg base ZI 2 f fd ZcR (VS K CR CS):=by
 refine F.ok ZnM (fun Y A outer s H vs Q E Z h=>?_)
 obtain ⟨r,pls,nds,B,k,rfl,R,I,q⟩:=h
 obtain ⟨st,W,ls,lt,lc,S⟩:=id R
 obtain ⟨dx,J⟩:=S.get r
 refine' ⟨?t,?h,?r⟩
 case h =>
  conv=>arg 2;whnf
  with_reducible refine' (Zf ?h1 (Zg ?h2))
  case h1=>exact Yy (Yo z G.cl Z (pv 0) (Zb (pv 1) Za))
  case h2=>exact Zl (Zk Zt (ZX (pv 0) rfl) (pv 1) (fun _ _=>rfl))
 refine ⟨_,rfl,r,dx,_,rfl,J,Xg (by decide +kernel),_,rfl,r,pls,nds,B,k,rfl,R,I,?_⟩
 exact ⟨_,rfl,r,CR,dx,_,_,rfl,J,G.cl,G.na,ZbR,_,rfl,W,_,_,_,rfl,rfl,SqL.of (S.get W),Zm (ZlW I),q⟩
end
def bk (pls:List ZE):Nat->Nat->List Nat
 | 0,_=>[]
 | _+1,0=>[0]
 | f+1,k+1=>(k+1)::bk pls f (pls.getD k ⟨0,.clr "",0,0⟩).ah
def WfP (pls:List ZE):Prop:=∀(k:Nat)(q:ZE),pls[k]?=some q->q.ah<=k
theorem WfP.at (h:WfP pls){k:Nat}(z:k < pls.length):(pls.getD k ⟨0,.clr "",0,0⟩).ah<=k:=by
 have e:=getElem?_eq_getElem z
 rw [getD_eq_getElem?_getD,e]
 exact h k _ e
theorem Zdg (pls:List ZE):∀ f k,(bk pls f k).length<=f
 | 0,_=>Qf _
 | f+1,0=>by show 1<=f+1;omega
 | f+1,k+1=>by show (bk pls f _).length+1<=f+1;have:=Zdg pls f (pls.getD k ⟨0,.clr "",0,0⟩).ah;omega
theorem VL (h:WfP pls):∀ k,k<=pls.length->∀ f,k+1<=f->bk pls f k=bk pls (k+1) k:=by
 intro k
 induction k using PY with
 | ind k ih =>
  intro G f z
  cases k with
  | zero=>obtain ⟨g,rfl⟩:∃ g,f=g+1:=⟨f - 1,by omega⟩;rfl
  | succ k =>
   obtain ⟨g,rfl⟩:∃ g,f=g+1:=⟨f - 1,by omega⟩
   have B:=h.at (show k < pls.length by omega)
   show (k+1)::bk pls g _=(k+1)::bk pls (k+1) _
   rw [ih _ (by omega) (by omega) g (by omega),ih _ (by omega) (by omega) (k+1) (by omega)]
section
variable {P:Qk}{w:Qs}{K:Qa}{mg:Str->Option Qc}{base:Heap}{CR CS Pl:Addr}{NS:List Str}
def StV (pls:List ZE)(k:Nat)(v:V)(H:Hp):Prop:=match k with
 | 0=>v=.non
 | k+1=>∃ a s,v=.ref a/\(pls.map (·.st))[k]?=some s/\H a=some (.tup s.vs)
inductive Zcb (K:Qa)(CR CS:Addr)(vs:List V)(H:Hp)(Q:VK)(w_3:XK):Prop
 | mk (r:Addr) (pls:List ZE) (nds:List Nd) (tabs:List (Zn×V)) (k:Nat):vs=[.ref r,.int (k:Int)]->RdR K CR CS r pls nds tabs H->k<=pls.length->(∀ v,StV pls k v H->Q v H)->Zcb K CR CS vs H Q w_3
abbrev nRSt:List Str:=["self","place"]
abbrev ZfW:List Str:=["self","place"]
theorem ZnR:Zo nRSt ZfW (Zi c_Roads_step):={}
theorem ZiO (F:Fun K "step" "Roads.step" c_Roads_step f fd)(T:Yj mg)(G:XO K CR)(z:DefM P w K mg base 1 CR "check_place" Zbq (Zbu K CR CS)):FnOk P w K mg base ZI 2 f fd ZfW (Zcb K CR CS):=by
 refine F.ok ZnR (fun cdv A outer s H vs Q E hr h=>?_)
 obtain ⟨r,pls,nds,I,k,rfl,R,hk,q⟩:=h
 obtain ⟨st,la,J,lt,lc,S⟩:=id R
 obtain ⟨dx,Z⟩:=S.get r
 obtain ⟨as,B,Y,W⟩:=S.get J
 refine' ⟨?t,?h,?r⟩
 case h =>
  conv=>arg 2;whnf
  with_reducible refine' (Zf ?h1 (Zg ?h2))
  case h1=>exact Yy (Yo z G.cl hr (pv 0) (Zb (pv 1) Za))
  case h2=>exact Zl (Zk Zt (ZX (pv 0) rfl) (pv 1) (fun _ _=>rfl))
 refine ⟨_,rfl,r,dx,_,rfl,Z,Xg (by decide +kernel),_,rfl,r,pls,nds,I,k,rfl,R,hk,?_⟩
 rw [length_map] at Y
 cases k with
 | zero=>exact ⟨_,rfl,r,CR,dx,_,_,rfl,Z,G.cl,G.ns,ZbS,_,rfl,J,_,_,_,rfl,rfl,SqL.of B,Zm rfl,q _ rfl⟩
 | succ k =>
  have ha:=getElem?_eq_getElem (show k < as.length by omega)
  have hs:(pls.map (·.st))[k]?=some pls[k].st:=by rw [getElem?_map,getElem?_eq_getElem (show k < pls.length by omega)];rfl
  exact ⟨_,rfl,r,CR,dx,_,_,rfl,Z,G.cl,G.ns,ZbS,_,rfl,J,_,_,_,rfl,rfl,SqL.of B,Zm (show (V.non::as.map V.ref)[k+1]?=some (.ref as[k]) by rw [Gu,getElem?_map,ha];rfl),q _ ⟨_,_,rfl,hs,W k _ _ ha hs⟩⟩
def tbN (pls:List ZE):Nat->Nat
 | 0=>0
 | k+1=>(pls.getD k ⟨0,.clr "",0,0⟩).tb
theorem Zej {k:Nat}(h:k<=pls.length):(0::pls.map (·.tb))[k]?=some (tbN pls k):=by
 cases k with
 | zero=>rfl
 | succ k =>
  rw [Gu,getElem?_map,getElem?_eq_getElem (show k < pls.length by omega)]
  show some _=some (pls.getD k ⟨0,.clr "",0,0⟩).tb
  rw [getD_eq_getElem?_getD,getElem?_eq_getElem (show k < pls.length by omega)]
  rfl
theorem Zni {pls:List ZE}{k:Nat}(h:k<=pls.length):(V.int 0::pls.map fun q=>V.int (q.tb:Int))[k]?=some (.int (tbN pls k:Int)):=by
 have e:(V.int 0::pls.map fun q=>V.int (q.tb:Int))=(0::pls.map (·.tb)).map fun n:Nat=>V.int (n:Int):=by rw [map_cons,map_map];rfl
 rw [e,getElem?_map,Zej h];rfl
inductive Zcc (K:Qa)(CR CS:Addr)(vs:List V)(H:Hp)(Q:VK)(w_3:XK):Prop
 | mk (r:Addr) (pls:List ZE) (nds:List Nd) (tabs:List (Zn×V)) (k:Nat):vs=[.ref r,.int (k:Int)]->RdR K CR CS r pls nds tabs H->k<=pls.length->Q (.int (tbN pls k:Int)) H->Zcc K CR CS vs H Q w_3
abbrev nRTa:List Str:=["self","place"]
abbrev ZfX:List Str:=["self","place"]
theorem ZnS:Zo nRTa ZfX (Zi c_Roads_table):={}
theorem ZiP (F:Fun K "table" "Roads.table" c_Roads_table f fd)(T:Yj mg)(G:XO K CR)(z:DefM P w K mg base 1 CR "check_place" Zbq (Zbu K CR CS)):FnOk P w K mg base ZI 2 f fd ZfX (Zcc K CR CS):=by
 refine F.ok ZnS (fun W A outer s H vs Q E Y h=>?_)
 obtain ⟨r,pls,nds,B,k,rfl,R,I,q⟩:=h
 obtain ⟨st,la,Z,lt,lc,S⟩:=id R
 obtain ⟨dx,J⟩:=S.get r
 refine' ⟨?t,?h,?r⟩
 case h =>
  conv=>arg 2;whnf
  with_reducible refine' (Zf ?h1 (Zg ?h2))
  case h1=>exact Yy (Yo z G.cl Y (pv 0) (Zb (pv 1) Za))
  case h2=>exact Zl (Zk Zt (ZX (pv 0) rfl) (pv 1) (fun _ _=>rfl))
 refine ⟨_,rfl,r,dx,_,rfl,J,Xg (by decide +kernel),_,rfl,r,pls,nds,B,k,rfl,R,I,?_⟩
 exact ⟨_,rfl,r,CR,dx,_,_,rfl,J,G.cl,G.nt,ZjE,_,rfl,lt,_,_,_,rfl,rfl,SqL.of (S.get lt),Zm (Zni I),q⟩
def rd (pls:List ZE)(k:Nat):List Nat:=(bk pls (k+1) k).reverse
def nV (n:Nat):V:=.int (n:Int)
end
structure RInv (NS:List Str)(pls:List ZE)(nds:List Nd)(tabs:List (Zn×V)):Prop where
 wf:WfP pls
 tr:∀ (k:Nat) (F:Str->Option V) (t:Nat),(envs pls)[k]?=some F->(0::pls.map (·.tb))[k]?=some t->(ZN tabs (QY (t:Int))).isSome=true/\Tri NS nds F 5 0 0 t/\∀ x u,F x=some u->Xa u
theorem Zcg (h:Xa v):ValV v:=by
 cases v<;>first | trivial | exact h.elim
theorem RInv.app (I:RInv NS pls nds W){q:ZE}(hk:q.ah<=pls.length)(hF:(envs pls)[q.ah]?=some F)(ext:NEx nds nds')(mono:∀ k,(ZN W k).isSome=true->(ZN J k).isSome=true)(ht:(ZN J (QY (q.tb:Int))).isSome=true)(tri:Tri NS nds' (q.st.ap F) 5 0 0 q.tb)(hv:∀ x v,q.st=.set x v->Xa v):RInv NS (pls++[q]) nds' J:=by
 have Z:=(I.tr q.ah F _ hF (Zej hk)).2.2
 refine ⟨fun k p e=>?_,fun k G t e1 e2=>?_⟩
 ·by_cases h:k < pls.length
  ·rw [getElem?_append_left h] at e;exact I.wf k p e
  ·rw [getElem?_append_right (by omega)] at e
   have:k - pls.length=0:=by
    cases z:k - pls.length with
    | zero=>rfl
    | succ j=>rw [z] at e;simp at e
   rw [this] at e
   cases (show some q=some p from e)
   omega
 ·rw [XZ] at e1
  by_cases h:k < (envs pls).length
  ·rw [getElem?_append_left h] at e1
   have Y:(0::pls.map (·.tb))[k]?=some t:=by
    rw [map_append,<- NC,getElem?_append_left (by rw [length_cons,length_map];rw [Xd] at h;exact h)] at e2
    exact e2
   obtain ⟨g1,g2,g3⟩:=I.tr k G t e1 Y
   exact ⟨mono _ g1,Tri.mono 5 g2 ext,g3⟩
  ·rw [getElem?_append_right (by omega)] at e1
   have hz:k - (envs pls).length=0:=by
    cases z:k - (envs pls).length with
    | zero=>rfl
    | succ j=>rw [z] at e1;simp at e1
   rw [hz] at e1
   have e1':q.st.ap ((envs pls).getD q.ah fun _=>none)=G:=Qu e1
   rw [getD_eq_getElem?_getD,hF] at e1'
   have ek:k=pls.length+1:=by rw [Xd] at h hz;omega
   have Y:q.tb=t:=by
    rw [ek,Gu,map_append,getElem?_append_right (by rw [length_map];omega),length_map,Jn] at e2
    exact Qu e2
   subst e1' Y
   refine ⟨ht,tri,fun x u B=>?_⟩
   have B:q.st.ap F x=some u:=B
   cases es:q.st with
   | set y v =>
    rw [es] at B
    have B:(if x=y then some v else F x)=some u:=B
    by_cases z:x=y
    ·rw [if_pos z] at B;cases B;exact hv y _ es
    ·rw [if_neg z] at B;exact Z x u B
   | clr y =>
    rw [es] at B
    have B:(if x=y then none else F x)=some u:=B
    by_cases z:x=y
    ·rw [if_pos z] at B;cases B
    ·rw [if_neg z] at B;exact Z x u B
section
variable {P:Qk}{w:Qs}{K:Qa}{mg:Str->Option Qc}{base:Heap}{CR CS Pl:Addr}
inductive Zgh (K:Qa)(CR CS Pl:Addr)(vs:List V)(H:Hp)(Q:VK)(w_3:XK):Prop
 | mk (NS:List Str) (r sa:Addr) (pls:List ZE) (nds:List Nd) (tabs:List (Zn×V)) (k:Nat) (s:Stp) (Δ:Rs):vs=[.ref r,.int (k:Int),.ref sa]->YE NS->Sep ((r,Wk K CR CS pls nds tabs)::(Pl,Xo)::Δ) H->H sa=some (.tup s.vs)->RInv NS pls nds tabs->s.ok NS->k<=pls.length->pls.length<=10000->nds.length<=90000->tabs.length<=90000->(∀ (H':Hp) (nds':List Nd) (tabs':List (Zn×V)) (t':Nat),Sep ((r,Wk K CR CS (pls++[⟨k,s,t',nds'.length - nds.length⟩]) nds' tabs')::(Pl,Xo)::Δ) H'->RInv NS (pls++[⟨k,s,t',nds'.length - nds.length⟩]) nds' tabs'->NEx nds nds'->nds'.length<=nds.length+6->tabs'.length<=tabs.length+1->Q (.int ((pls.length+1:Nat):Int)) H')->Zgh K CR CS Pl vs H Q w_3
theorem NEx.len (h:NEx nds nds'):nds.length<=nds'.length:=by
 cases e:nds.length with
 | zero=>omega
 | succ n =>
  have z:n < nds.length:=by omega
  have:=(Qj.mp (h n _ (getElem?_eq_getElem z))).1
  omega
abbrev nRGo:List Str:=["self","place","step","table","made_ahead"]
abbrev ZcS:List Str:=["self","place","step"]
theorem scRGo:Zo nRGo ZcS (Zi c_Roads_go_on):={}
theorem ZkR (F:Fun K "go_on" "Roads.go_on" c_Roads_go_on f fd)(T:Yj mg)(B:XO K CR)(TC:XD K CS)(DR_table:DefM P w K mg base 9 CR "table" ZfX (Zcc K CR CS))(Z:DefM P w K mg base 9 CS "made" ["self"] (Zec K CS))(DS_put:DefM P w K mg base 9 CS "put" ["self","table","name","value"] (Zbw K CS Pl))(DS_without:DefM P w K mg base 9 CS "without" ["self","table","name"] (ZcW K CS Pl)):FnOk P w K mg base ZI 10 f fd ZcS (Zgh K CR CS Pl):=by
 refine F.ok scRGo (fun cdv A outer s H vs Q E hr h=>?_)
 obtain ⟨NS,r,sa,pls,nds,tabs,k,s,Δ,rfl,N,S0,es,I,hs,hk,hpl,hnd,htb,q⟩:=h
 obtain ⟨st,Y,ls,lt,lc,S⟩:=S0.roaO
 obtain ⟨dx,ob⟩:=S.get r
 obtain ⟨b0,ln,dt,SA⟩:=S.get st
 obtain ⟨dxs,obs⟩:=SA.ob
 obtain ⟨Fk,hFk⟩:∃ Fk,(envs pls)[k]?=some Fk:=⟨_,getElem?_eq_getElem (by rw [Xd];omega)⟩
 obtain ⟨g1,g2,g3⟩:=I.tr k Fk _ hFk (Zej hk)
 refine' ⟨?t,?h,?r⟩
 case h =>
  conv=>arg 2;whnf
  with_reducible refine' (Zf ?h1 (Zf ?h2 (Zf (ZZ ?h3 (Zg ?h4) (Zg ?h5)) (Zf ?h6 (Zf ?h7 (Zf ?h8 (Zf ?h9 (Zg ?h10))))))))
  case h1=>exact Zs (i:=3) scRGo.nd rfl (Qy rfl) (Yo DR_table B.cl hr (pv 0) (Zb (pv 1) Za))
  case h2=>exact Zs (i:=4) scRGo.nd rfl (Qy rfl) (ZfN Z TC.cl hr (ZX (pv 0) rfl))
  case h3=>exact ZG ZY (Zk ZK (pv 2) Zc (fun _ _=>rfl)) ZM (ZA _)
  case h4=>exact Zs (i:=3) scRGo.nd rfl (Qy rfl) (Yo DS_put TC.cl hr (ZX (pv 0) rfl) (Zb (pv 3) (Zb (Zk ZK (pv 2) Zc (fun _ _=>rfl)) (Zb (Zk ZK (pv 2) Zc (fun _ _=>rfl)) Za))))
  case h5=>exact Zs (i:=3) scRGo.nd rfl (Qy rfl) (Yo DS_without TC.cl hr (ZX (pv 0) rfl) (Zb (pv 3) (Zb (Zk ZK (pv 2) Zc (fun _ _=>rfl)) Za)))
  case h6=>exact Yy (Xs QG QO QP YS (ZX (pv 0) rfl) (Zb (pv 1) Za))
  case h7=>exact Yy (Xs QG QO QP YS (ZX (pv 0) rfl) (Zb (pv 2) Za))
  case h8=>exact Yy (Xs QG QO QP YS (ZX (pv 0) rfl) (Zb (pv 3) Za))
  case h9=>exact Yy (Xs QG QO QP YS (ZX (pv 0) rfl) (Zb (Zp YN (ZfN Z TC.cl hr (ZX (pv 0) rfl)) (pv 4)) Za))
  case h10=>exact Zl (Zp YN (Zu ZH rfl T.len QC (Zb (ZX (pv 0) rfl) Za)) Zc)
 refine ⟨_,rfl,r,dx,_,rfl,ob,Xg (by decide +kernel),_,rfl,r,pls,nds,tabs,k,rfl,S0.get r,hk,?_⟩
 refine ⟨_,rfl,r,CR,dx,_,_,rfl,ob,B.cl,B.nk,ZdT,st,dxs,_,rfl,obs,Yb ln dt (by decide +kernel) (by decide +kernel),st,nds,tabs,rfl,S.get st,?_⟩
 have S1:=((S.imm es rfl).pull Pl).pull st
 cases s with
 | set x v =>
  obtain ⟨hx,hv⟩:=hs
  refine ⟨_,rfl,sa,_,_,_,rfl,rfl,SqT.of es,Zm (j:=0) rfl,rfl,_,rfl,?_⟩
  rw [decide_eq_true rfl]
  refine ZF ⟨_,rfl,r,CR,dx,_,_,rfl,ob,B.cl,B.nk,ZdT,st,dxs,_,rfl,obs,Yb ln dt (by decide +kernel) (by decide +kernel),_,rfl,_,rfl,sa,_,_,_,rfl,rfl,SqT.of es,Zm (j:=1) rfl,_,rfl,sa,_,_,_,rfl,rfl,SqT.of es,Zm (j:=2) rfl,?_⟩
  refine ⟨NS,st,nds,tabs,tbN pls k,x,v,Fk,_,N,rfl,S1,g1,g2,hx,Zcg hv,fun u hu=>Zcg (g3 x u hu),by omega,by omega,fun H2 z G t2 S2 J len2 tl2 mono2 ht2 tri2=>?_⟩
  have I2:=RInv.app (q:=⟨k,.set x v,t2,z.length - nds.length⟩) I hk hFk J mono2 ht2 tri2 (fun y u e=>by cases e;exact hv)
  revert S2 I2
  generalize Stp.set x v=s at *
  intro S2 I2
  obtain ⟨dx2,ob2⟩:=S2.get r
  refine ⟨_,rfl,r,CR,dx2,_,_,rfl,ob2,B.cl,B.na,ZbR,.inl ⟨rfl,_,SqL.of (S2.get Y)⟩,_,rfl,Y,_,_,rfl,rfl,S2.get Y,Xn (show _<=20000 by rw [length_cons,length_map];omega),?_⟩
  generalize W:upd H2 Y _=H3
  have S3:=S2.putE W
  clear W
  obtain ⟨dx3,ob3⟩:=S3.get r
  obtain ⟨as3,els,hal,_⟩:=S3.get ls
  rw [length_map] at hal
  refine ⟨_,rfl,r,CR,dx3,_,_,rfl,ob3,B.cl,B.ns,ZbS,.inl ⟨rfl,_,SqL.of els⟩,_,rfl,ls,_,_,rfl,rfl,els,Xn (show _<=20000 by rw [length_cons,length_map];omega),?_⟩
  generalize W:upd H3 ls _=H4
  have S4:=W ▸ S3.stepApp ls els (S3.get sa)
  clear W
  obtain ⟨dx4,ob4⟩:=S4.get r
  refine ⟨_,rfl,r,CR,dx4,_,_,rfl,ob4,B.cl,B.nt,ZjE,.inl ⟨rfl,_,SqL.of (S4.get lt)⟩,_,rfl,lt,_,_,rfl,rfl,S4.get lt,Xn (show _<=20000 by rw [length_cons,length_map];omega),?_⟩
  generalize W:upd H4 lt _=H5
  have S5:=S4.putE W
  clear W
  obtain ⟨dx5,ob5⟩:=S5.get r
  obtain ⟨_,ln5,dt5,SA5⟩:=S5.get st
  obtain ⟨dxs5,obs5⟩:=SA5.ob
  refine ⟨_,rfl,r,CR,dx5,_,_,rfl,ob5,B.cl,B.nc,rf_c,.inl ⟨rfl,_,SqL.of (S5.get lc)⟩,_,rfl,r,CR,dx5,_,_,rfl,ob5,B.cl,B.nk,ZdT,st,dxs5,_,rfl,obs5,Yb ln5 dt5 (by decide +kernel) (by decide +kernel),st,z,G,rfl,S5.get st,_,rfl,_,_,rfl,rfl,lc,_,_,rfl,rfl,S5.get lc,Xn (show _<=20000 by rw [length_cons,length_map];omega),?_⟩
  generalize W:upd H5 lc _=H6
  have S6:=S5.putE W
  clear W
  obtain ⟨dx6,ob6⟩:=S6.get r
  refine ⟨_,rfl,r,CR,dx6,_,_,rfl,ob6,B.cl,B.na,ZbR,Y,_,rfl,.inl (SqL.of (S6.get Y)),_,_,rfl,rfl,?_⟩
  have hle:=J.len
  have ec:V.int ((z.length:Int) - (nds.length:Int))=V.int ((z.length - nds.length:Nat):Int):=congrArg V.int (by omega)
  have S7:=(((((((S6.drop sa).pull Pl).pull lc).pull lt).pull ls).pull Y).pull st).pull r
  have S8:Sep ((r,Zal CR (UJ st Y ls lt lc))::(st,Uk K CS z G)::(Y,ZO (V.non::(pls++[(⟨k,s,t2,z.length - nds.length⟩:ZE)]).map fun q=>V.int (q.ah:Int)))::(ls,UQ ((pls++[(⟨k,s,t2,z.length - nds.length⟩:ZE)]).map (·.st)))::(lt,ZO (V.int 0::(pls++[(⟨k,s,t2,z.length - nds.length⟩:ZE)]).map fun q=>V.int (q.tb:Int)))::(lc,ZO (V.int 0::(pls++[(⟨k,s,t2,z.length - nds.length⟩:ZE)]).map fun q=>V.int (q.co:Int)))::(Pl,Xo)::Δ) H6:=by
   rw [map_append,map_append,map_append,map_append]
   show Sep (_::_::_::_::_::(lc,ZO (V.int 0::(pls.map (fun q=>V.int (q.co:Int))++[V.int ((z.length - nds.length:Nat):Int)])))::_) _
   rw [<- ec]
   exact S7
  have e9:(((V.non::pls.map fun q=>V.int (q.ah:Int))++[V.int (k:Int)]).length:Int) - 1=((pls.length+1:Nat):Int):=by rw [length_append,length_cons,length_map];show ((pls.length+1+1:Nat):Int) - 1=_;omega
  have:=q H6 z G t2 S8.roaC I2 J len2 tl2
  rw [<- e9] at this
  exact this
 | clr x =>
  refine ⟨_,rfl,sa,_,_,_,rfl,rfl,SqT.of es,Zm (j:=0) rfl,rfl,_,rfl,?_⟩
  rw [show decide (V.str "clear"=V.str (Qn "set"))=false by decide +kernel]
  refine Zz ⟨_,rfl,r,CR,dx,_,_,rfl,ob,B.cl,B.nk,ZdT,st,dxs,_,rfl,obs,Yb ln dt (by decide +kernel) (by decide +kernel),_,rfl,_,rfl,sa,_,_,_,rfl,rfl,SqT.of es,Zm (j:=1) rfl,?_⟩
  refine ⟨NS,st,nds,tabs,tbN pls k,x,Fk,_,N,rfl,S1,g1,g2,hs,fun u hu=>Zcg (g3 x u hu),by omega,by omega,fun H2 z G t2 S2 J len2 tl2 mono2 ht2 tri2=>?_⟩
  have I2:=RInv.app (q:=⟨k,.clr x,t2,z.length - nds.length⟩) I hk hFk J mono2 ht2 tri2 (fun y u e=>by cases e)
  revert S2 I2
  generalize Stp.clr x=s at *
  intro S2 I2
  obtain ⟨dx2,ob2⟩:=S2.get r
  refine ⟨_,rfl,r,CR,dx2,_,_,rfl,ob2,B.cl,B.na,ZbR,.inl ⟨rfl,_,SqL.of (S2.get Y)⟩,_,rfl,Y,_,_,rfl,rfl,S2.get Y,Xn (show _<=20000 by rw [length_cons,length_map];omega),?_⟩
  generalize W:upd H2 Y _=H3
  have S3:=S2.putE W
  clear W
  obtain ⟨dx3,ob3⟩:=S3.get r
  obtain ⟨as3,els,hal,_⟩:=S3.get ls
  rw [length_map] at hal
  refine ⟨_,rfl,r,CR,dx3,_,_,rfl,ob3,B.cl,B.ns,ZbS,.inl ⟨rfl,_,SqL.of els⟩,_,rfl,ls,_,_,rfl,rfl,els,Xn (show _<=20000 by rw [length_cons,length_map];omega),?_⟩
  generalize W:upd H3 ls _=H4
  have S4:=W ▸ S3.stepApp ls els (S3.get sa)
  clear W
  obtain ⟨dx4,ob4⟩:=S4.get r
  refine ⟨_,rfl,r,CR,dx4,_,_,rfl,ob4,B.cl,B.nt,ZjE,.inl ⟨rfl,_,SqL.of (S4.get lt)⟩,_,rfl,lt,_,_,rfl,rfl,S4.get lt,Xn (show _<=20000 by rw [length_cons,length_map];omega),?_⟩
  generalize W:upd H4 lt _=H5
  have S5:=S4.putE W
  clear W
  obtain ⟨dx5,ob5⟩:=S5.get r
  obtain ⟨_,ln5,dt5,SA5⟩:=S5.get st
  obtain ⟨dxs5,obs5⟩:=SA5.ob
  refine ⟨_,rfl,r,CR,dx5,_,_,rfl,ob5,B.cl,B.nc,rf_c,.inl ⟨rfl,_,SqL.of (S5.get lc)⟩,_,rfl,r,CR,dx5,_,_,rfl,ob5,B.cl,B.nk,ZdT,st,dxs5,_,rfl,obs5,Yb ln5 dt5 (by decide +kernel) (by decide +kernel),st,z,G,rfl,S5.get st,_,rfl,_,_,rfl,rfl,lc,_,_,rfl,rfl,S5.get lc,Xn (show _<=20000 by rw [length_cons,length_map];omega),?_⟩
  generalize W:upd H5 lc _=H6
  have S6:=S5.putE W
  clear W
  obtain ⟨dx6,ob6⟩:=S6.get r
  refine ⟨_,rfl,r,CR,dx6,_,_,rfl,ob6,B.cl,B.na,ZbR,Y,_,rfl,.inl (SqL.of (S6.get Y)),_,_,rfl,rfl,?_⟩
  have hle:=J.len
  have ec:V.int ((z.length:Int) - (nds.length:Int))=V.int ((z.length - nds.length:Nat):Int):=congrArg V.int (by omega)
  have S7:=(((((((S6.drop sa).pull Pl).pull lc).pull lt).pull ls).pull Y).pull st).pull r
  have S8:Sep ((r,Zal CR (UJ st Y ls lt lc))::(st,Uk K CS z G)::(Y,ZO (V.non::(pls++[(⟨k,s,t2,z.length - nds.length⟩:ZE)]).map fun q=>V.int (q.ah:Int)))::(ls,UQ ((pls++[(⟨k,s,t2,z.length - nds.length⟩:ZE)]).map (·.st)))::(lt,ZO (V.int 0::(pls++[(⟨k,s,t2,z.length - nds.length⟩:ZE)]).map fun q=>V.int (q.tb:Int)))::(lc,ZO (V.int 0::(pls++[(⟨k,s,t2,z.length - nds.length⟩:ZE)]).map fun q=>V.int (q.co:Int)))::(Pl,Xo)::Δ) H6:=by
   rw [map_append,map_append,map_append,map_append]
   show Sep (_::_::_::_::_::(lc,ZO (V.int 0::(pls.map (fun q=>V.int (q.co:Int))++[V.int ((z.length - nds.length:Nat):Int)])))::_) _
   rw [<- ec]
   exact S7
  have e9:(((V.non::pls.map fun q=>V.int (q.ah:Int))++[V.int (k:Int)]).length:Int) - 1=((pls.length+1:Nat):Int):=by rw [length_append,length_cons,length_map];show ((pls.length+1+1:Nat):Int) - 1=_;omega
  have:=q H6 z G t2 S8.roaC I2 J len2 tl2
  rw [<- e9] at this
  exact this
end
section
variable {P:Qk}{w:Qs}{K:Qa}{mg:Str->Option Qc}{base:Heap}{CR CS Pl:Addr}
def GoP (K:Qa)(CR CS Pl:Addr)(NS:List Str)(r:Addr)(pls:List ZE)(nds:List Nd)(tabs:List (Zn×V))(k:Nat)(s:Stp)(Δ:Rs)(H:Hp)(Q:VK):Prop :=
 YE NS/\Sep ((r,Wk K CR CS pls nds tabs)::(Pl,Xo)::Δ) H/\RInv NS pls nds tabs/\s.ok NS/\k<=pls.length/\pls.length<=10000/\nds.length<=90000/\tabs.length<=90000 /\
 ∀ (H':Hp) (nds':List Nd) (tabs':List (Zn×V)) (t':Nat),Sep ((r,Wk K CR CS (pls++[⟨k,s,t',nds'.length - nds.length⟩]) nds' tabs')::(Pl,Xo)::Δ) H'->RInv NS (pls++[⟨k,s,t',nds'.length - nds.length⟩]) nds' tabs'->nds'.length<=nds.length+6->tabs'.length<=tabs.length+1->Q (.int ((pls.length+1:Nat):Int)) H'
inductive Zed (K:Qa)(CR CS Pl:Addr)(vs:List V)(H:Hp)(Q:VK)(w_3:XK):Prop
 | mk (NS:List Str) (r:Addr) (pls:List ZE) (nds:List Nd) (tabs:List (Zn×V)) (k:Nat) (x:Str) (v:V) (Δ:Rs):vs=[.ref r,.int (k:Int),.str x,v]->GoP K CR CS Pl NS r pls nds tabs k (.set x v) Δ H Q->Zed K CR CS Pl vs H Q w_3
inductive ZdY (K:Qa)(CR CS Pl:Addr)(vs:List V)(H:Hp)(Q:VK)(w_3:XK):Prop
 | mk (NS:List Str) (r:Addr) (pls:List ZE) (nds:List Nd) (tabs:List (Zn×V)) (k:Nat) (x:Str) (Δ:Rs):vs=[.ref r,.int (k:Int),.str x]->GoP K CR CS Pl NS r pls nds tabs k (.clr x) Δ H Q->ZdY K CR CS Pl vs H Q w_3
abbrev nRPu:List Str:=["self","place","name","value"]
abbrev ZfV:List Str:=["self","place","name","value"]
theorem ZnQ:Zo nRPu ZfV (Zi c_Roads_put):={}
theorem Zlb (F:Fun K "put" "Roads.put" c_Roads_put f fd)(T:Yj mg)(TR:XO K CR)(z:DefM P w K mg base 10 CR "go_on" ZcS (Zgh K CR CS Pl)):FnOk P w K mg base ZI 11 f fd ZfV (Zed K CR CS Pl):=by
 refine F.ok ZnQ (fun cdv A outer s H vs Q E hr h=>?_)
 obtain ⟨NS,r,pls,nds,G,k,x,v,Δ,rfl,N,J,I,Y,W,h1,h2,h3,q⟩:=h
 obtain ⟨st,la,ls,lt,lc,Z⟩:=J.get r
 obtain ⟨dx,ob⟩:=Z.get r
 refine' ⟨?t,?h,?r⟩
 case h =>
  conv=>arg 2;whnf
  with_reducible refine' (Zg ?h1)
  case h1=>exact Zl (Yo z TR.cl hr (pv 0) (Zb (pv 1) (Zb (Yt (Zb ZM (Zb (pv 2) (Zb (pv 3) Za)))) Za)))
 refine ⟨_,rfl,r,dx,_,rfl,ob,Xg (by decide +kernel),_,rfl,_,rfl,_,rfl,(by show 3<=Qg;decide),fun t ht=>?_⟩
 exact ⟨NS,r,t,pls,nds,G,k,.set x v,Δ,rfl,N,(J.new ht _).drop t,Zh,I,Y,W,h1,h2,h3,fun H' nds' B t' S' I' _ l1 l2=>q H' nds' B t' S' I' l1 l2⟩
abbrev nRCl:List Str:=["self","place","name"]
abbrev ZfS:List Str:=["self","place","name"]
theorem ZnO:Zo nRCl ZfS (Zi c_Roads_clear):={}
theorem ZkP (F:Fun K "clear" "Roads.clear" c_Roads_clear f fd)(T:Yj mg)(TR:XO K CR)(z:DefM P w K mg base 10 CR "go_on" ZcS (Zgh K CR CS Pl)):FnOk P w K mg base ZI 11 f fd ZfS (ZdY K CR CS Pl):=by
 refine F.ok ZnO (fun cdv A outer s H vs Q E hr h=>?_)
 obtain ⟨NS,r,pls,nds,G,k,x,Δ,rfl,N,J,I,Y,W,h1,h2,h3,q⟩:=h
 obtain ⟨st,la,ls,lt,lc,Z⟩:=J.get r
 obtain ⟨dx,ob⟩:=Z.get r
 refine' ⟨?t,?h,?r⟩
 case h =>
  conv=>arg 2;whnf
  with_reducible refine' (Zg ?h1)
  case h1=>exact Zl (Yo z TR.cl hr (pv 0) (Zb (pv 1) (Zb (Yt (Zb ZM (Zb (pv 2) Za))) Za)))
 refine ⟨_,rfl,r,dx,_,rfl,ob,Xg (by decide +kernel),_,rfl,_,rfl,(by show 2<=Qg;decide),fun t ht=>?_⟩
 exact ⟨NS,r,t,pls,nds,G,k,.clr x,Δ,rfl,N,(J.new ht _).drop t,Zh,I,Y,W,h1,h2,h3,fun H' nds' B t' S' I' _ l1 l2=>q H' nds' B t' S' I' l1 l2⟩
inductive ZbX (K:Qa)(CR CS:Addr)(vs:List V)(H:Hp)(Q:VK)(w_3:XK):Prop
 | mk (r dx:Addr) (H0:Hp) (Δ:Rs):vs=[.ref r]->H=upd (upd H0 dx (.own r)) r (.ins CR dx [])->H0 r=none->H0 dx=none->dx≠r->Sep Δ H0->(∀ H',Sep ((r,Wk K CR CS [] [.bare] [(QY 0,.bl true)])::Δ) H'->Q .non H')->ZbX K CR CS vs H Q w_3
abbrev nRIn:List Str:=["self"]
abbrev ZfT:List Str:=["self"]
theorem ZnP:Zo nRIn ZfT (Zi c_Roads___init__):={}
theorem ZiI (F:Fun K "__init__" "Roads.__init__" c_Roads___init__ f fd)(T:Yj mg)(I:XO K CR)(TC:XD K CS)(W:Zfp P w K mg base 1 CS "Store" ["self"] (VU K CS))(G:DefM P w K mg base 2 CS "empty" ["self"] (ZbV K CS)):FnOk P w K mg base ZI 3 f fd ZfT (ZbX K CR CS):=by
 refine F.ok ZnP (fun cdv A outer s H vs Q E hr h=>?_)
 obtain ⟨r,dx,H0,Δ,rfl,rfl,h1,h2,h3,S0,q⟩:=h
 have S:=((S0.new h2 (.own r)).new (p:=r) (by rw [Zj h3.symm];exact h1) (.ins CR dx [])).drop dx
 generalize upd (upd H0 dx (.own r)) r (.ins CR dx [])=H at *
 refine' ⟨?t,?h,?r⟩
 case h =>
  conv=>arg 2;whnf
  with_reducible refine' (Zf ?h1 (Zf ?h2 (Zf ?h3 (Zf ?h4 (Zg ?h5)))))
  case h1=>exact Ug (pv 0) (Zkl W hr) rfl
  case h2=>exact Ug (pv 0) (ZT (Zb XV Za)) rfl
  case h3=>exact Ug (pv 0) (ZT (Zb XV Za)) rfl
  case h4=>exact Ug (pv 0) (ZT (Zb (ZfN G TC.cl hr (ZX (pv 0) rfl)) Za)) rfl
  case h5=>exact Ug (pv 0) (ZT (Zb Zc Za)) rfl
 intro st dx2 hst J hne
 refine ⟨st,dx2,_,_,rfl,rfl,hst,J,hne,S,fun H1 _ S1=>⟨rfl,?_⟩⟩
 refine ⟨_,rfl,r,CR,dx,_,rfl,S1.get r,I.cl,I.nk,(by show 0 < 1000;decide),?_⟩
 generalize B:upd H1 r _=H2
 have S2:=S1.putE B
 clear B
 refine ⟨(by show 1<=Qg;decide),fun la hla=>?_⟩
 generalize B:upd H2 la _=H3
 have S3:=S2.newE hla B
 clear B
 refine ⟨_,rfl,r,CR,dx,_,rfl,S3.get r,I.cl,I.na,(by show 1 < 1000;decide),?_⟩
 generalize B:upd H3 r _=H4
 have S4:=S3.putE B
 clear B
 refine ⟨(by show 1<=Qg;decide),fun Y Z=>?_⟩
 generalize B:upd H4 Y _=H5
 have S5:=S4.newE Z B
 clear B
 refine ⟨_,rfl,r,CR,dx,_,rfl,S5.get r,I.cl,I.ns,(by show 2 < 1000;decide),?_⟩
 generalize B:upd H5 r _=H6
 have S6:=S5.putE B
 clear B
 obtain ⟨b0,ln,dt,SA⟩:=S6.get st
 obtain ⟨dxs,obs⟩:=SA.ob
 refine ⟨_,rfl,r,CR,dx,_,_,rfl,S6.get r,I.cl,I.nk,rfl,st,dxs,_,rfl,obs,Yb ln dt (by decide +kernel) (by decide +kernel),_,rfl,(by show 1<=Qg;decide),fun lt hlt=>?_⟩
 generalize B:upd H6 lt _=H7
 have S7:=S6.newE hlt B
 clear B
 refine ⟨_,rfl,r,CR,dx,_,rfl,S7.get r,I.cl,I.nt,(by show 3 < 1000;decide),?_⟩
 generalize B:upd H7 r _=H8
 have S8:=S7.putE B
 clear B
 refine ⟨(by show 1<=Qg;decide),fun lc hlc=>?_⟩
 generalize B:upd H8 lc _=H9
 have S9:=S8.newE hlc B
 clear B
 refine ⟨_,rfl,r,CR,dx,_,rfl,S9.get r,I.cl,I.nc,(by show 4 < 1000;decide),?_⟩
 generalize B:upd H9 r _=H10
 have S10:=S9.putE B
 clear B
 have S11:=S10.say Y (UQ []) fun h z=>⟨[],z,rfl,fun i a s e=>by simp at e⟩
 have S12:=S11.say r (Zal CR (UJ st la Y lt lc)) fun h z=>⟨dx,z⟩
 have S13:=(((((S12.pull lc).pull lt).pull Y).pull la).pull st).pull r
 exact q _ (Sep.roaC (pls:=[]) S13)
end
def StopL (pls:List ZE):Yv:=fun l h=>∃ as:List Addr,h l=some (.lst (as.map V.ref))/\as.length=pls.length+1/\(∀ a,as[0]?=some a->h a=some (.tup [.non,.non]))/\∀(i:Nat)(a:Addr)(q:ZE),as[i+1]?=some a->pls[i]?=some q->∃ b,h a=some (.tup [.int (q.ah:Int),.ref b])/\h b=some (.tup q.st.vs)
instance {pls:List ZE}:Up (StopL pls):=⟨fun ⟨as,e,l,h0,h⟩ s=>⟨as,s _ _ e,l,fun a z=>s _ _ (h0 a z),fun i a q e1 e2=>let ⟨b,z1,z2⟩:=h i a q e1 e2;⟨b,s _ _ z1,s _ _ z2⟩⟩⟩
theorem Sep.stopApp {Δ J:Rs}{H:Hp}{pls:List ZE}{q:ZE}{a b:Addr}{as:List Addr}(S:Sep Δ H)(l:Addr)[P:Pull l Δ (StopL pls) J](e:H l=some (.lst (as.map V.ref)))(ea:H a=some (.tup [.int (q.ah:Int),.ref b]))(Z:H b=some (.tup q.st.vs)):Sep ((l,StopL (pls++[q]))::J) (upd H l (.lst (as.map V.ref++[V.ref a]))):=by
 refine S.updR l _ (fun h ⟨as,e,_⟩=>⟨_,e,rfl⟩) fun h r l' h' e1 e2 e3=>?_
 obtain ⟨B,e4,hl,W,hs⟩:=r
 have e5:=l' _ _ e4
 rw [e] at e5
 have e6:as.map V.ref=B.map V.ref:=HO.lst.inj (Qu e5)
 have Y:∀ b o,h b=some (.tup o)->h' b=some (.tup o):=fun b o z=>e2 _ _ (fun y=>by rw [y,e4] at z;cases z) z
 refine ⟨B++[a],?_,by rw [length_append,length_append,hl];rfl,fun c z=>?_,fun i c p I G=>?_⟩
 ·rw [e1,map_append,e6];rfl
 ·rw [getElem?_append_left (by omega)] at z
  exact Y _ _ (W c z)
 ·by_cases hi:i < pls.length
  ·rw [getElem?_append_left (by omega)] at I
   rw [getElem?_append_left hi] at G
   obtain ⟨d,z1,z2⟩:=hs i c p I G
   exact ⟨d,Y _ _ z1,Y _ _ z2⟩
  ·rw [getElem?_append_right (by omega)] at I G
   have W:i - pls.length=0:=by
    cases z:i - pls.length with
    | zero=>rfl
    | succ j=>rw [z] at G;simp at G
   rw [show i+1 - B.length=0 by omega] at I
   rw [W] at G
   cases (show some a=some c from I)
   cases (show some q=some p from G)
   exact ⟨b,e3 _ _ (fun y=>by rw [y,e] at ea;cases ea) ea rfl,e3 _ _ (fun y=>by rw [y,e] at Z;cases Z) Z rfl⟩
section
variable {P:Qk}{w:Qs}{K:Qa}{mg:Str->Option Qc}{base:Heap}{CR CS Pl:Addr}
inductive ZbW (K:Qa)(CR CS Pl:Addr)(vs:List V)(H:Hp)(Q:VK)(w_3:XK):Prop
 | mk (NS:List Str) (r sl sa:Addr) (pls:List ZE) (nds:List Nd) (tabs:List (Zn×V)) (k:Nat) (s:Stp) (Δ:Rs):vs=[.ref r,.ref sl,.int (k:Int),.ref sa]->YE NS->Sep ((r,Wk K CR CS pls nds tabs)::(Pl,Xo)::(sl,StopL pls)::Δ) H->H sa=some (.tup s.vs)->RInv NS pls nds tabs->s.ok NS->k<=pls.length->pls.length<=10000->nds.length<=90000->tabs.length<=90000->(∀ (H':Hp) (nds':List Nd) (tabs':List (Zn×V)) (q:ZE),Sep ((r,Wk K CR CS (pls++[q]) nds' tabs')::(Pl,Xo)::(sl,StopL (pls++[q]))::Δ) H'->RInv NS (pls++[q]) nds' tabs'->nds'.length<=nds.length+6->tabs'.length<=tabs.length+1->q.st.ok NS->Q (.bl true) H')->ZbW K CR CS Pl vs H Q w_3
abbrev nGr:List Str:=["_law_roads","_law_stops","_law_place","_law_step_here","_law_told"]
abbrev Zji:List Str:=["_law_roads","_law_stops","_law_place","_law_step_here"]
theorem scGr:Zo nGr Zji (Zi s_l_grown):={}
theorem ZiH (F:Fun K "_law_grown" "_law_grown" s_l_grown f fd)(T:Yj mg)(TR:XO K CR)(DR_put:DefM P w K mg base 11 CR "put" ZfV (Zed K CR CS Pl))(Z:DefM P w K mg base 11 CR "clear" ZfS (ZdY K CR CS Pl)):FnOk P w K mg base ZI 12 f fd Zji (ZbW K CR CS Pl):=by
 refine F.ok scGr (fun cdv A outer s H vs Q E hr h=>?_)
 obtain ⟨NS,r,G,sa,pls,nds,tabs,k,s,Δ,rfl,N,S0,es,I,hs,hk,h1,h2,h3,q⟩:=h
 obtain ⟨st,la,ls,lt,lc,SR⟩:=S0.get r
 obtain ⟨dx,ob⟩:=SR.get r
 refine' ⟨?t,?h,?r⟩
 case h =>
  conv=>arg 2;whnf
  with_reducible refine' (Zf (ZZ ?h1 (Zg ?h2) (Zg ?h3)) (Zf ?h4 (Zg ?h5)))
  case h1=>exact ZG ZY (Zk ZK (pv 3) Zc (fun _ _=>rfl)) ZM (ZA _)
  case h2=>exact Zs (i:=4) scGr.nd rfl (Qy rfl) (Yo DR_put TR.cl hr (pv 0) (Zb (pv 2) (Zb (Zk ZK (pv 3) Zc (fun _ _=>rfl)) (Zb (Zk ZK (pv 3) Zc (fun _ _=>rfl)) Za))))
  case h3=>exact Zs (i:=4) scGr.nd rfl (Qy rfl) (Yo Z TR.cl hr (pv 0) (Zb (pv 2) (Zb (Zk ZK (pv 3) Zc (fun _ _=>rfl)) Za)))
  case h4=>exact Yy (Xs QG QO QP YS (pv 1) (Zb (Yt (Zb (pv 2) (Zb (pv 3) Za))) Za))
  case h5=>exact Zl (Xl (Zu Wx rfl T.isinstance (by decide +kernel) (Zb (pv 4) (Zb (YZ rfl T.int (by decide +kernel) (v:=.ty "int") rfl) Za))) (Xl (ZdO (Zu Wx rfl T.isinstance (by decide +kernel) (Zb (pv 4) (Zb (YZ rfl T.bool (by decide +kernel) (v:=.ty "bool") rfl) Za)))) (XW (Yx ZY (pv 4) (Zp YN (Zu ZH rfl T.len QC (Zb (pv 1) Za)) Zc) (ZA _)))))
 have S1:=((S0.imm es rfl).pull Pl).pull r
 cases s with
 | set x v =>
  refine ⟨_,rfl,sa,_,_,_,rfl,rfl,SqT.of es,Zm (j:=0) rfl,rfl,_,rfl,?_⟩
  rw [decide_eq_true rfl]
  refine ZF ⟨_,rfl,r,dx,_,rfl,ob,Xg (by decide +kernel),_,rfl,_,rfl,sa,_,_,_,rfl,rfl,SqT.of es,Zm (j:=1) rfl,_,rfl,sa,_,_,_,rfl,rfl,SqT.of es,Zm (j:=2) rfl,?_⟩
  refine ⟨NS,r,pls,nds,tabs,k,x,v,_,rfl,N,S1,I,hs,hk,h1,h2,h3,fun H2 B Y t2 S2 I2 l1 l2=>?_⟩
  obtain ⟨as,W,hal,_⟩:=S2.get G
  refine ⟨_,rfl,.inl ⟨rfl,_,SqL.of W⟩,_,rfl,_,rfl,(by show 2<=Qg;decide),fun t ht=>?_⟩
  generalize J:upd H2 t _=H3
  have S3:=S2.newE ht J
  have z:H3 G=some (.lst (as.map V.ref)):=by rw [<- J,Zj (Zx W ht)];exact W
  clear J
  refine ⟨G,_,_,rfl,rfl,z,Xn (show _<=20000 by rw [length_map];omega),?_⟩
  generalize J:upd H3 G _=H4
  have S4:=J ▸ Sep.stopApp (q:=⟨k,.set x v,t2,B.length - nds.length⟩) S3 G z (S3.get t) (S3.get sa)
  have els4:H4 G=some (.lst (as.map V.ref++[V.ref t])):=by rw [<- J];exact Zh
  clear J
  refine ⟨_,rfl,_,_,_,_,rfl,.int _,rfl,true,rfl,ZF ⟨_,rfl,_,_,_,_,rfl,.int _,rfl,false,rfl,true,rfl,ZF ?_⟩⟩
  refine ⟨_,rfl,_,rfl,G,_,rfl,.inl (SqL.of els4),_,_,rfl,rfl,rfl,?_⟩
  rw [decide_eq_true (show V.int ((pls.length+1:Nat):Int)=V.int (((as.map V.ref++[V.ref t]).length:Nat) - 1:Int) from congrArg V.int (by rw [length_append,length_map,hal];show _=((pls.length+1+1:Nat):Int) - 1;omega))]
  exact q H4 B Y _ (((((S4.drop t).drop sa).pull G).pull Pl).pull r) I2 l1 l2 hs
 | clr x =>
  refine ⟨_,rfl,sa,_,_,_,rfl,rfl,SqT.of es,Zm (j:=0) rfl,rfl,_,rfl,?_⟩
  rw [show decide (V.str "clear"=V.str (Qn "set"))=false by decide +kernel]
  refine Zz ⟨_,rfl,r,dx,_,rfl,ob,Xg (by decide +kernel),_,rfl,_,rfl,sa,_,_,_,rfl,rfl,SqT.of es,Zm (j:=1) rfl,?_⟩
  refine ⟨NS,r,pls,nds,tabs,k,x,_,rfl,N,S1,I,hs,hk,h1,h2,h3,fun H2 B Y t2 S2 I2 l1 l2=>?_⟩
  obtain ⟨as,W,hal,_⟩:=S2.get G
  refine ⟨_,rfl,.inl ⟨rfl,_,SqL.of W⟩,_,rfl,_,rfl,(by show 2<=Qg;decide),fun t ht=>?_⟩
  generalize J:upd H2 t _=H3
  have S3:=S2.newE ht J
  have z:H3 G=some (.lst (as.map V.ref)):=by rw [<- J,Zj (Zx W ht)];exact W
  clear J
  refine ⟨G,_,_,rfl,rfl,z,Xn (show _<=20000 by rw [length_map];omega),?_⟩
  generalize J:upd H3 G _=H4
  have S4:=J ▸ Sep.stopApp (q:=⟨k,.clr x,t2,B.length - nds.length⟩) S3 G z (S3.get t) (S3.get sa)
  have els4:H4 G=some (.lst (as.map V.ref++[V.ref t])):=by rw [<- J];exact Zh
  clear J
  refine ⟨_,rfl,_,_,_,_,rfl,.int _,rfl,true,rfl,ZF ⟨_,rfl,_,_,_,_,rfl,.int _,rfl,false,rfl,true,rfl,ZF ?_⟩⟩
  refine ⟨_,rfl,_,rfl,G,_,rfl,.inl (SqL.of els4),_,_,rfl,rfl,rfl,?_⟩
  rw [decide_eq_true (show V.int ((pls.length+1:Nat):Int)=V.int (((as.map V.ref++[V.ref t]).length:Nat) - 1:Int) from congrArg V.int (by rw [length_append,length_map,hal];show _=((pls.length+1+1:Nat):Int) - 1;omega))]
  exact q H4 B Y _ (((((S4.drop t).drop sa).pull G).pull Pl).pull r) I2 l1 l2 hs
end
section
variable {P:Qk}{w:Qs}{K:Qa}{mg:Str->Option Qc}{base:Heap}{CR CS Pl:Addr}
theorem StopL.at {k:Nat}(h:StopL pls l H)(Y:k<=pls.length):∃ xs a x y,H l=some (.lst xs)/\xs[k]?=some (.ref a)/\H a=some (.tup [x,y])/\x=ahV pls k/\StV pls k y H/\xs.length=pls.length+1:=by
 obtain ⟨as,e,B,I,W⟩:=h
 have z:=getElem?_eq_getElem (show k < as.length by omega)
 refine ⟨as.map V.ref,as[k],?_⟩
 cases k with
 | zero=>exact ⟨_,_,e,by rw [getElem?_map,z];rfl,I _ z,rfl,rfl,by rw [length_map];exact B⟩
 | succ k =>
  have hp:=getElem?_eq_getElem (show k < pls.length by omega)
  obtain ⟨b,J,G⟩:=W k _ _ z hp
  refine ⟨_,_,e,by rw [getElem?_map,z];rfl,J,?_,⟨b,_,rfl,by rw [getElem?_map,hp];rfl,G⟩,by rw [length_map];exact B⟩
  show _=V.int (((pls.getD k ⟨0,.clr "",0,0⟩).ah:Nat):Int)
  rw [getD_eq_getElem?_getD,hp];rfl
inductive ZbY (vs:List V)(H:Hp)(Q:VK)(w_3:XK):Prop
 | mk (sl:Addr) (pls:List ZE) (k:Nat):vs=[.ref sl,.int (k:Int)]->StopL pls sl H->WfP pls->k<=pls.length->pls.length<=10000->(∀ l H',Same H H'->H l=none->H' l=some (.lst ((rd pls k).map nV))->Q (.ref l) H')->ZbY vs H Q w_3
abbrev nRo:List Str:=["_law_stops","_law_place","_law_found"]
abbrev Zjq:List Str:=["_law_stops","_law_place"]
theorem scRo:Zo nRo Zjq (Zi s_l_road):={}
theorem ZiJ (F:Fun K "_law_road" "_law_road" s_l_road f fd)(T:Yj mg):FnOk P w K mg base ZI 1 f fd Zjq ZbY:=by
 refine F.ok scRo (fun cdv A outer s H vs Q E hr h=>?_)
 obtain ⟨Y,pls,k,rfl,R,W,Z,hpl,q⟩:=h
 refine' ⟨?t,?h,?r⟩
 case h =>
  conv=>arg 2;whnf
  with_reducible refine' (Zf ?h1 (Zf (Vk ?h2 ?h3 (Zg ?h4)) (Zg ?h5)))
  case h1=>exact Zs (i:=2) scRo.nd rfl (Qy rfl) (ZT (Zb (pv 1) Za))
  case h2=>exact QU
  case h3=>exact ZG Zkj (Zk Zt (pv 2) Zc (fun _ _=>rfl)) Zc (ZA _)
  case h4=>exact Yy (Xs QG PySem.F.slot_list_insert PySem.F.type_list_insert Zhf (pv 2) (Zb Zc (Zb (Zk ZK (Zk Zt (pv 0) (Zk Zt (pv 2) Zc (fun _ _=>rfl)) (fun _ _=>rfl)) Zc (fun _ _=>rfl)) Za)))
  case h5=>exact Zl (pv 2)
 refine ⟨_,rfl,(by show 1<=Qg;decide),fun l J=>?_⟩
 refine ⟨fun m σ H'=>∃ (bs:List Nat) (j:Nat),σ=[some (.ref Y),some (.int (k:Int)),some (.ref l)]/\Same H H'/\H' l=some (.lst ((j::bs).map nV))/\bs.length+j<=k/\j<=pls.length/\m=j/\bs.reverse++bk pls (j+1) j=bk pls (k+1) k,
  ⟨k,[],k,rfl,Zv J _,Zh,by show 0+k<=k;omega,Z,rfl,rfl⟩,?_⟩
 rintro j σ H2 ⟨bs,j',rfl,s2,I,hm,hj,rfl,G⟩
 refine ⟨_,rfl,l,_,_,_,rfl,rfl,SqL.of I,Zm (j:=0) rfl,_,_,rfl,rfl,_,rfl,Xk (fun c=>?_) (fun c=>?_)⟩
 ·have B:0 < j:=by have:=of_decide_eq_true c;omega
  obtain ⟨xs,a,x,y,e1,e2,e3,e4,_,_⟩:=StopL.at (Up.up R s2) hj
  refine ⟨_,fun σ' H' h=>h,_,rfl,.inl ⟨rfl,_,SqL.of I⟩,_,rfl,_,rfl,l,_,_,_,rfl,rfl,SqL.of I,Zm (j:=0) rfl,Y,_,_,_,rfl,rfl,SqL.of e1,Zm (j:=j) e2,a,_,_,_,rfl,rfl,SqT.of e3,Zm (j:=0) rfl,l,_,0,_,rfl,rfl,I,?_,by decide,?_⟩
  ·rw [length_map,length_cons];omega
  obtain ⟨i,rfl⟩:∃ i,j=i+1:=⟨j - 1,by omega⟩
  have ha:=W.at (show i < pls.length by omega)
  subst e4
  refine ⟨(pls.getD i ⟨0,.clr "",0,0⟩).ah,by omega,(i+1)::bs,_,rfl,fun b o e=>?_,Zh,by show bs.length+1+_<=k;omega,by omega,rfl,?_⟩
  ·rw [Zj (Zx e J)];exact s2 _ _ e
  ·rw [reverse_cons,Jx,<- G]
   show bs.reverse++(i+1)::bk pls _ _=bs.reverse++(i+1)::bk pls (i+1) _
   rw [VL W _ (by omega) (i+1) (by omega)]
 ·have B:j=0:=by have:¬ (0:Int) < (j:Int):=fun z=>c (decide_eq_true z);omega
  subst B
  refine ⟨_,rfl,q l H2 s2 J ?_⟩
  rw [I]
  unfold rd
  rw [<- G,List.reverse_append,List.reverse_reverse];rfl
end
end K26
namespace L2
open PySem PySem.Spec PyProof.Rows PySem.F
section
variable {prog:Qk}{w:Qs}{A:QD}{E:Qc->Qe->Prop}{s:Qe}
end
section
variable {X:Cx}
end
end L2
namespace K26
open PySem L2
def stN (pls:List ZE):Nat->Option Str
 | 0=>none
 | k+1=>some (pls.getD k ⟨0,.clr "",0,0⟩).st.nm
def Yk (pls:List ZE)(x:Str)(k:Nat):Bool:=decide (stN pls k=some x)
theorem ZhM {k:Nat}(e:(pls.map (·.st))[k]?=some s):stN pls (k+1)=some s.nm:=by
 rw [getElem?_map] at e
 show some (pls.getD k _).st.nm=_
 rw [getD_eq_getElem?_getD]
 cases z:pls[k]? with
 | none=>rw [z] at e;cases e
 | some q=>rw [z] at e;cases e;rfl
section
variable {P:Qk}{w:Qs}{K:Qa}{mg:Str->Option Qc}{base:Heap}{CR CS Pl:Addr}
theorem vs1 (s:Stp):s.vs[1]?=some (.str s.nm):=by cases s<;>rfl
inductive ZcV (K:Qa)(CR CS:Addr)(vs:List V)(H:Hp)(Q:VK)(w_3:XK):Prop
 | mk (r:Addr) (pls:List ZE) (nds:List Nd) (tabs:List (Zn×V)) (k:Nat) (x:Str):vs=[.ref r,.int (k:Int),.str x]->RdR K CR CS r pls nds tabs H->k<=pls.length->Q (.bl (Yk pls x k)) H->ZcV K CR CS vs H Q w_3
abbrev nRHs:List Str:=["self","place","name","step"]
abbrev ZcT:List Str:=["self","place","name"]
theorem scRHs:Zo nRHs ZcT (Zi c_Roads_step_has):={}
theorem Zmx (F:Fun K "step_has" "Roads.step_has" c_Roads_step_has f fd)(T:Yj mg)(W:XO K CR)(B:DefM P w K mg base 2 CR "step" ZfW (Zcb K CR CS)):FnOk P w K mg base ZI 3 f fd ZcT (ZcV K CR CS):=by
 refine F.ok scRHs (fun J A outer s H vs Q E Z h=>?_)
 obtain ⟨r,pls,nds,G,k,x,rfl,R,Y,q⟩:=h
 obtain ⟨st,la,ls,lt,lc,S⟩:=id R
 obtain ⟨dx,ob⟩:=S.get r
 refine' ⟨?t,?h,?r⟩
 case h =>
  conv=>arg 2;whnf
  with_reducible refine' (Zf ?h1 (Zg ?h2))
  case h1=>exact Zs (i:=3) scRHs.nd rfl (Qy rfl) (Yo B W.cl Z (pv 0) (Zb (pv 1) Za))
  case h2=>exact Zl (Xl (Zbm (ZbN (pv 3))) (XW (Yx ZY (Zk ZK (pv 3) Zc (fun _ _=>rfl)) (pv 2) (ZA _))))
 refine ⟨_,rfl,r,dx,_,rfl,ob,Xg (by decide +kernel),_,rfl,r,pls,nds,G,k,rfl,R,Y,fun v I=>?_⟩
 cases k with
 | zero =>
  cases (show v=.non from I)
  exact ⟨_,rfl,false,rfl,Zz q⟩
 | succ k =>
  obtain ⟨a,s,rfl,es,ea⟩:=I
  refine ⟨_,rfl,true,rfl,ZF ⟨_,rfl,a,_,_,_,rfl,rfl,SqT.of ea,Zm (j:=1) (vs1 s),_,rfl,rfl,?_⟩⟩
  have e:Yk pls x (k+1)=decide (V.str s.nm=V.str x):=by
   unfold Yk
   rw [ZhM es]
   by_cases z:s.nm=x
   ·rw [decide_eq_true (by rw [z]),decide_eq_true (by rw [z])]
   ·rw [decide_eq_false (fun y=>z (Qu y)),decide_eq_false (fun y=>z (V.str.inj y))]
  rw [e] at q
  exact q
def Xb (pls:List ZE)(x:Str)(k:Nat):Option Nat:=(bk pls (k+1) k).find? (Yk pls x)
def oV:Option Nat->V
 | none=>.non
 | some j=>.int (j:Int)
theorem VA {k:Nat}(h:Yk pls x k=true):Xb pls x k=some k:=by
 unfold Xb
 cases k with
 | zero=>simp [Yk,stN] at h
 | succ k=>show List.find? _ ((k+1)::_)=_;rw [List.find?_cons_of_pos h]
theorem Vc :Xb pls x 0=none:=by
 show List.find? _ [0]=none
 rw [Rh (by simp [Yk,stN])];rfl
theorem Zax (z:WfP pls){k:Nat}(B:k < pls.length)(h:Yk pls x (k+1)=false):Xb pls x (k+1)=Xb pls x (pls.getD k ⟨0,.clr "",0,0⟩).ah:=by
 have G:=z.at B
 unfold Xb
 show List.find? _ ((k+1)::bk pls (k+1) _)=_
 rw [Rh (by rw [h];decide),VL z _ (by omega) (k+1) (by omega)]
inductive Zeb (K:Qa)(CR CS:Addr)(vs:List V)(H:Hp)(Q:VK)(w_3:XK):Prop
 | mk (r:Addr) (pls:List ZE) (nds:List Nd) (tabs:List (Zn×V)) (k:Nat) (x:Str):vs=[.ref r,.int (k:Int),.str x]->RdR K CR CS r pls nds tabs H->WfP pls->k<=pls.length->Q (oV (Xb pls x k)) H->Zeb K CR CS vs H Q w_3
abbrev nRLa:List Str:=["self","place","name","at"]
abbrev ZfU:List Str:=["self","place","name"]
theorem scRLa:Zo nRLa ZfU (Zi c_Roads_last):={}
theorem ZkV (F:Fun K "last" "Roads.last" c_Roads_last f fd)(T:Yj mg)(Z:XO K CR)(z:DefM P w K mg base 3 CR "step_has" ZcT (ZcV K CR CS))(B:DefM P w K mg base 3 CR "ahead" ZcR (VS K CR CS)):FnOk P w K mg base ZI 4 f fd ZfU (Zeb K CR CS):=by
 refine F.ok scRLa (fun cdv A outer s H vs Q E hr h=>?_)
 obtain ⟨r,pls,nds,I,k,x,rfl,R,W,hk,q⟩:=h
 obtain ⟨st,la,ls,lt,lc,S⟩:=id R
 obtain ⟨dx,ob⟩:=S.get r
 refine' ⟨?t,?h,?r⟩
 case h =>
  conv=>arg 2;whnf
  with_reducible refine' (Zf ?h1 (Zf (Vk ?h2 ?h3 (Zg ?h4)) (Zg ?h5)))
  case h1=>exact Zs (i:=3) scRLa.nd rfl (Qy rfl) (pv 1)
  case h2=>exact QU
  case h3=>exact PW.pt (ZdR (UI (ZbN (pv 3))) (ZbQ (Ws (Xm (Yo z Z.cl hr (pv 0) (Zb (pv 3) (Zb (pv 2) Za)))))))
  case h4=>exact Zs (i:=3) scRLa.nd rfl (Qy rfl) (Yo B Z.cl hr (pv 0) (Zb (pv 3) Za))
  case h5=>exact Zl (pv 3)
 refine ⟨_,rfl,fun m σ H'=>H'=H/\∃ G:V,σ=[some (.ref r),some (.int (k:Int)),some (.str x),some G]/\((∃ j,G=.int (j:Nat)/\j<=pls.length/\m=j+1/\Xb pls x j=Xb pls x k)\/(G=.non/\Xb pls x k=none)),
  ⟨k+1,rfl,_,rfl,.inl ⟨k,rfl,hk,rfl,rfl⟩⟩,?_⟩
 rintro m σ H2 ⟨rfl,G,rfl,hc⟩
 rcases hc with ⟨j,rfl,Y,rfl,J⟩ | ⟨rfl,J⟩
 ·refine ⟨_,rfl,_,rfl,ZF ⟨_,rfl,r,dx,_,rfl,ob,Xg (by decide +kernel),_,rfl,_,rfl,r,pls,nds,I,j,x,rfl,R,Y,_,rfl,?_⟩⟩
  cases h:Yk pls x j with
  | false =>
   refine ZF ⟨_,fun σ' H' h=>h,_,rfl,r,dx,_,rfl,ob,Xg (by decide +kernel),_,rfl,r,pls,nds,I,j,rfl,R,Y,?_⟩
   cases j with
   | zero=>exact ⟨0,by omega,rfl,_,rfl,.inr ⟨rfl,by rw [<- J];exact Vc⟩⟩
   | succ j =>
    have ha:=W.at (show j < pls.length by omega)
    exact ⟨(pls.getD j ⟨0,.clr "",0,0⟩).ah+1,by omega,rfl,_,rfl,.inl ⟨_,rfl,by omega,rfl,by rw [<- J,Zax W (by omega) h]⟩⟩
  | true =>
   refine Zz ⟨_,rfl,?_⟩
   rw [<- J,VA h] at q
   exact q
 ·refine ⟨_,rfl,_,rfl,Zz (Zz ⟨_,rfl,?_⟩)⟩
  rw [J] at q
  exact q
theorem Zfv (B:WfP pls):∀ f k,k<=pls.length->∀ j∈bk pls f k,j<=k
 | 0,_,_,_,h=>nomatch h
 | f+1,0,_,j,h=>by rw [mem_singleton.mp (show j∈[0] from h)];exact Qf _
 | f+1,k+1,hk,j,h=>by
  have G:=B.at (show k < pls.length by omega)
  rcases mem_cons.mp (show j∈(k+1)::bk pls f _ from h) with rfl | z
  ·exact Qf _
  ·have:=Zfv B f _ (by omega) j z;omega
theorem Zcu (B:WfP pls){k j:Nat}(z:k<=pls.length)(h:Xb pls x k=some j):1<=j/\j<=k/\Yk pls x j=true:=by
 have h1:=List.find?_some h
 have h2:=Zfv B _ _ z j (List.mem_of_find?_eq_some h)
 refine ⟨?_,h2,h1⟩
 cases j with
 | zero=>simp [Yk,stN] at h1
 | succ j=>omega
def stW:Stp->V
 | .set _ v=>v
 | .clr _=>.non
def Ys (pls:List ZE)(x:Str)(k:Nat):V:=match Xb pls x k with
 | none=>.non
 | some j=>stW (pls.getD (j - 1) ⟨0,.clr "",0,0⟩).st
inductive ZaG (K:Qa)(CR CS:Addr)(vs:List V)(H:Hp)(Q:VK)(w_3:XK):Prop
 | mk (r:Addr) (pls:List ZE) (nds:List Nd) (tabs:List (Zn×V)) (k:Nat) (x:Str):vs=[.ref r,.int (k:Int),.str x]->RdR K CR CS r pls nds tabs H->WfP pls->k<=pls.length->Q (Ys pls x k) H->ZaG K CR CS vs H Q w_3
abbrev nRWa:List Str:=["self","place","name","found"]
abbrev ZfY:List Str:=["self","place","name"]
theorem scRWa:Zo nRWa ZfY (Zi c_Roads_walked):={}
theorem Zhk (F:Fun K "walked" "Roads.walked" c_Roads_walked f fd)(T:Yj mg)(I:XO K CR)(z:DefM P w K mg base 4 CR "last" ZfU (Zeb K CR CS)):FnOk P w K mg base ZI 5 f fd ZfY (ZaG K CR CS):=by
 refine F.ok scRWa (fun cdv A outer s H vs Q E hr h=>?_)
 obtain ⟨r,pls,nds,G,k,x,rfl,R,hw,hk,q⟩:=h
 obtain ⟨st,la,J,lt,lc,S⟩:=id R
 obtain ⟨dx,Y⟩:=S.get r
 obtain ⟨as,B,W,Z⟩:=S.get J
 rw [length_map] at W
 refine' ⟨?t,?h,?r⟩
 case h =>
  conv=>arg 2;whnf
  with_reducible refine' (Zf ?h1 (Zf (ZZ ?h2 (Zg ?h3) ZS) (Zg ?h4)))
  case h1=>exact Zs (i:=3) scRWa.nd rfl (Qy rfl) (Yo z I.cl hr (pv 0) (Zb (pv 1) (Zb (pv 2) Za)))
  case h2=>exact PW.pt (Wt (UI (UH (pv 3))) (Wu (ZG ZY (Zk ZK (Zk Zt (ZX (pv 0) rfl) (pv 3) (fun _ _=>rfl)) Zc (fun _ _=>rfl)) ZM (ZA _))))
  case h3=>exact Zl XV
  case h4=>exact Zl (Zk ZK (Zk Zt (ZX (pv 0) rfl) (pv 3) (fun _ _=>rfl)) Zc (fun _ _=>rfl))
 refine ⟨_,rfl,r,dx,_,rfl,Y,Xg (by decide +kernel),_,rfl,_,rfl,r,pls,nds,G,k,x,rfl,R,hw,hk,?_⟩
 unfold Ys at q
 cases hl:Xb pls x k with
 | none =>
  rw [hl] at q
  exact ⟨_,rfl,_,rfl,ZF (ZF q)⟩
 | some j =>
  rw [hl] at q
  obtain ⟨h1,h2,h3⟩:=Zcu hw hk hl
  obtain ⟨i,rfl⟩:∃ i,j=i+1:=⟨j - 1,by omega⟩
  have ha:=getElem?_eq_getElem (show i < as.length by omega)
  have hp:=getElem?_eq_getElem (show i < pls.length by omega)
  have es:(pls.map (·.st))[i]?=some pls[i].st:=by rw [getElem?_map,hp];rfl
  have ea:=Z i _ _ ha es
  have el:(V.non::as.map V.ref)[i+1]?=some (.ref as[i]):=by rw [Gu,getElem?_map,ha];rfl
  have eg:pls.getD (i+1 - 1) ⟨0,.clr "",0,0⟩=pls[i]:=by rw [TJ,getD_eq_getElem?_getD,hp];rfl
  have q:Q (stW (pls.getD (i+1 - 1) ⟨0,.clr "",0,0⟩).st) H:=q
  rw [eg] at q
  refine ⟨_,rfl,_,rfl,Zz ⟨_,rfl,r,CR,dx,_,_,rfl,Y,I.cl,I.ns,ZbS,_,rfl,J,_,_,_,rfl,rfl,SqL.of B,Zm el,?_⟩⟩
  cases hs:pls[i].st with
  | set y v =>
   rw [hs] at q ea
   refine ⟨as[i],_,_,_,rfl,rfl,SqT.of ea,Zm (j:=0) rfl,rfl,_,rfl,?_⟩
   rw [show decide (V.str "set"=V.str (Qn "clear"))=false by decide +kernel]
   exact Zz ⟨_,rfl,r,CR,dx,_,_,rfl,Y,I.cl,I.ns,ZbS,_,rfl,J,_,_,_,rfl,rfl,SqL.of B,Zm el,as[i],_,_,_,rfl,rfl,SqT.of ea,Zm (j:=2) rfl,q⟩
  | clr y =>
   rw [hs] at q ea
   refine ⟨as[i],_,_,_,rfl,rfl,SqT.of ea,Zm (j:=0) rfl,rfl,_,rfl,?_⟩
   rw [decide_eq_true rfl]
   exact ZF q
end
end K26
namespace L2
open PySem PySem.Spec PyProof.Rows
section
variable {prog:Qk}{w:Qs}{A:QD}{E:Qc->Qe->Prop}{h:Heap}{g:Array OM}{d:Drawn}{t:Nat}{os:OsState}
variable {nm q:Str}{C N:Addr}{bs bm:List Qc}{sn:List Str}{sub:List Qc}{ab:Bool}{col:Option Bool}{dd:Option Addr}{k0 k1 k2 k3 k5:Option Qc}
end
section
variable {prog:Qk}{w:Qs}{A:QD}{E:Qc->Qe->Prop}{h:Heap}{g:Array OM}{d:Drawn}{t:Nat}{os:OsState}
variable {nm q:Str}{C N x:Addr}{bs bm:List Qc}{sn:List Str}{sub:List Qc}{ab:Bool}{col:Option Bool}{dd:Option Addr}{k0 k1 k2 k3 k5:Option Qc}{name:Str}{v:Qc}{o:Obj}
end
section
variable {M:Model}{A:QD}{E:Qc->Qe->Prop}{s:Qe}{base:Heap}{n:Nat}{H:Hp}{env:Env}{outer:List Env}{L ea C dx:Addr}
end
section
variable {X:Cx}{pins:List (Addr×Obj)}{σ:St}{H H1 H2:Hp}{s s1 s2:Qe}{h':Heap}
end
section
variable {P:Qk}{w:Qs}{K:Qa}{mg:Str->Option Qc}{base:Heap}{k:Nat}{f:Addr}{fd:Qm}{ps:List Str}{sp sp':Sp}{CX:Uy}
end
section
variable {X:Cx}{pins:List (Addr×Obj)}{σ:St}{H:Hp}{s:Qe}
end
section
variable {X:Cx}{body suite:List Stmt}{b0:Stmt}{C0:Addr}{x0 n:Str}{i:Nat}{tb:(St->XK)->TS}{th:TS}{p0 hp pos:Pos}
end
section
variable {P:Qk}{w:Qs}{K:Qa}{mg:Str->Option Qc}{base:Heap}{j k:Nat}{C:Addr}{x m:Str}{ps:List Str}{sp:Sp}
end
section
variable {X:Cx}{EE:St->XK}{k:Nat}{f C:Addr}{fd:Qm}{ps:List Str}{sp:Sp}{x m:Str}{p pos apos:Pos}{e o:Expr}{es:List Expr}{ta:TE}{t:TA}
end
section
variable {X:Cx}{o value:Expr}{pos pos':Pos}{ta tv:TE}
end
section
variable {X:Cx}{pins:List (Addr×Obj)}{σ:St}{H:Hp}{s:Qe}
end
section
variable {X:Cx}{EE:St->XK}{k:Nat}{C:Addr}{x:Str}{np cpos pos:Pos}{e:Expr}{t:TA}
end
end L2
namespace L2
open PySem PySem.Spec PyProof.Rows
open PySem.Builtin PySem.Builtin.ObjectAttr
section
variable {prog:Qk}{w:Qs}{A:QD}{E:Qc->Qe->Prop}{h:Heap}{g:Array OM}{d:Drawn}{t:Nat}{os:OsState}
variable {nm q:Str}{C N a dx:Addr}{bs bm:List Qc}{sn:List Str}{sub:List Qc}{ab:Bool}{col:Option Bool}{dd:Option Addr}{k0 k1 k2 k3 k5:Option Qc}{name:Str}{v:Qc}{o:Obj}{vs:Array Qc}{mA:Str->Option Qc}
end
end L2
namespace L2
open PySem PySem.Spec PyProof.Rows
section
variable {X:Cx}{e:Expr}{pos:Pos}{ta:TE}
end
section
variable {X:Cx}
end
section
variable {X:Cx}{pins:List (Addr×Obj)}{σ:St}{H:Hp}{s:Qe}{d:Addr}{o:Obj}{kvs:List (Zn×V)}
end
section
variable {X:Cx}{tg:Expr}
end
end L2
namespace L2
open PySem PySem.W PySem.Spec PyProof.Rows
section
variable {X:Cx}
end
end L2
namespace L2
open PySem
end L2
namespace L2
open PySem PySem.W PySem.Spec PyProof.Rows
section
variable {X:Cx}
end
end L2
namespace L2
open PySem PySem.Spec PyProof.Rows
end L2
namespace L2
open PySem PySem.W PySem.Spec PyProof.Rows
section
variable {X:Cx}
end
end L2
namespace L2
open PySem PySem.Spec PyProof.Rows
section
variable {X:Cx}
end
end L2
namespace L2
open PySem PySem.W PySem.Spec PyProof.Rows
section
variable {X:Cx}{pins:List (Addr×Obj)}{σ:List (Option V)}{H:Hp}{s:Qe}
end
section
variable {cs:Pn}{H H' H2:Hp}{h h':Heap}{b:Addr}{o:Obj}{P:Qk}{w:Qs}{fs:List Addr}
end
section
variable {P:Qk}{w:Qs}{K:Qa}{mg:Str->Option Qc}{base:Heap}{N:List Str}
end
section
variable {X:Cx}{EE:St->XK}{k i:Nat}{x:Str}{p pos:Pos}
end
section
variable {X:Cx}{k j:Nat}{f:Str}{pn:Str}{sp:Sp}{p0 lpos pos:Pos}{args:Arguments}{body:Expr}{sc:Scope}{te:(St->XK)->TE}{c Pl:Addr}
end
section
variable {X:Cx}
end
section
variable {P:Qk}{w:Qs}{K:Qa}{mg:Str->Option Qc}{base:Heap}{k:Nat}{RK:Addr->Str->Prop}{Pl:Addr}{qual:Str}{te:(St->XK)->TE}{σ:St}{H:Hp}{Q:VK}
end
section
variable {X:Cx}{k j:Nat}{RK:Addr->Str->Prop}{f:Str}{pn:Str}{p0 lpos pos:Pos}{args:Arguments}{body:Expr}{sc:Scope}{te:(St->XK)->TE}{c Pl:Addr}
end
end L2
namespace L2
open PySem
section
variable {K:Qa}{CH CR CS CT h d r sp i t lf lu:Addr}{s:Hs}{fs:List Fnd}{us:List Bool}{Δ:Rs}{H:Hp}
end
end L2
namespace L2
open PySem PySem.W
end L2
namespace L2
open PySem
end L2
namespace L2
open PySem PySem.Spec PyProof.Rows
section
variable {X:Cx}
end
def ZbL (ds:List QM):Nat:=(ds.map fun d=>d.shown.length+2).sum
theorem ZhY (ds:List QM):(Ri ds).shown.length<=3+ZbL ds:=by
 show (tupleText (PX ds)).length<=_
 rw [Uh]
 have B:(Qn (if (ds.map GD).length == 1 then ",)" else ")":String)).length<=2:=by split<;>decide
 have G:(Str.join ", " (ds.map GD)).length<=ZbL ds:=by
  cases ds with
  | nil=>show 0<=_;omega
  | cons d r =>
   have e:=join_length_add ((d::r).map GD) (by simp)
   have p:piled ((d::r).map GD)=ZbL (d::r):=by unfold piled ZbL;rw [map_map];rfl
   omega
 show (Qn "("++Str.join ", " (ds.map GD)++Qn (if (ds.map GD).length == 1 then ",)" else ")":String)).length<=_
 rw [YI,YI]
 have z:(Qn "(").length=1:=by decide
 omega
end L2
namespace L2
open PySem
end L2
namespace K26
open PySem L2
def foS:Stp->List (Str×V)->List (Str×V)
 | .set x v,ps=>Xt ps x v
 | .clr x,ps=>Xc ps x
theorem Zmc (s:Stp)(ps:List (Str×V)):lk (foS s ps)=s.ap (lk ps):=by
 cases s with
 | set x v=>funext y;show lk (Xt ps x v) y=if y=x then some v else lk ps y;rw [ZeX]
 | clr x=>funext y;show lk (Xc ps x) y=if y=x then none else lk ps y;rw [ZbG]
def foK (pls:List ZE)(ps:List (Str×V))(j:Nat):List (Str×V):=foS (pls.getD (j - 1) ⟨0,.clr "",0,0⟩).st ps
theorem ZgG (I:WfP pls){k:Nat}(B:pls[k]?=some q)(G:(envs pls)[q.ah]?=some F):(envs pls)[k+1]?=some (q.st.ap F):=by
 revert I B G
 induction pls using ZbT with
 | h0=>intro _ h _;simp at h
 | hs l a ih =>
  intro I B G
  have J:WfP l:=fun j p e=>I j p (by rw [getElem?_append_left (Qj.mp e).1];exact e)
  have Y:=I k q B
  by_cases h:k < l.length
  ·rw [getElem?_append_left h] at B
   rw [XZ,getElem?_append_left (by rw [Xd];omega)] at G
   rw [XZ,getElem?_append_left (by rw [Xd];omega)]
   exact ih J B G
  ·rw [getElem?_append_right (by omega)] at B
   have W:k - l.length=0:=by
    cases z:k - l.length with
    | zero=>rfl
    | succ j=>rw [z] at B;simp at B
   rw [W] at B
   cases (show some a=some q from B)
   rw [XZ,getElem?_append_left (by rw [Xd];omega)] at G
   rw [XZ,getElem?_append_right (by rw [Xd];omega),Xd,show k+1 - (l.length+1)=0 by omega,getD_eq_getElem?_getD,G]
   rfl
theorem Zkr (B:WfP pls){k:Nat}(z:pls[k]?=some q):rd pls (k+1)=rd pls q.ah++[k+1]:=by
 have I:=(Qj.mp z).1
 have G:=B k q z
 unfold rd
 show ((k+1)::bk pls (k+1) (pls.getD k ⟨0,.clr "",0,0⟩).ah).reverse=_
 rw [getD_eq_getElem?_getD,z]
 show ((k+1)::bk pls (k+1) q.ah).reverse=_
 rw [reverse_cons,VL B q.ah (by omega) (k+1) (by omega)]
theorem Zkp (pls:List ZE)(k:Nat):rd pls k≠[]:=fun z=>by
 have B:=congrArg Sa z
 unfold rd at B
 rw [length_reverse] at B
 cases k<;>simp [bk] at B
theorem env0 (pls:List ZE):(envs pls)[0]?=some fun _=>none:=by
 induction pls using ZbT with
 | h0=>rfl
 | hs l a ih=>rw [XZ,getElem?_append_left (by rw [Xd];omega)];exact ih
theorem ZkC (G:WfP pls):∀ k,k<=pls.length->(envs pls)[k]?=some (lk ((rd pls k).tail.foldl (foK pls) [])):=by
 intro k
 induction k using PY with
 | ind k ih =>
  intro W
  cases k with
  | zero =>
   exact env0 pls
  | succ k =>
   have z:=getElem?_eq_getElem (show k < pls.length by omega)
   have I:=G k _ z
   have e:=ih pls[k].ah (by omega) (by omega)
   rw [ZgG G z e,Zkr G z]
   obtain ⟨Y,B,J⟩:=JG (Zkp pls pls[k].ah)
   rw [J]
   show some _=some (lk ((B++[k+1]).foldl (foK pls) []))
   rw [Sh]
   show some (pls[k].st.ap (lk (B.foldl (foK pls) [])))=some (lk (foS (pls.getD k ⟨0,.clr "",0,0⟩).st (B.foldl (foK pls) [])))
   rw [Zmc,getD_eq_getElem?_getD,z];rfl
def HeldOk (NS:List Str)(ps:List (Str×V)):Prop:=(ps.map (·.1)).Nodup/\∀ p∈ps,p.1∈NS/\Xa p.2
theorem HeldOk.few (h:HeldOk NS ps):ps.length<=NS.length:=by
 have:=ZeK h.1 (N:=NS) fun x z=>by obtain ⟨p,hp,rfl⟩:=mem_map.mp z;exact (h.2 p hp).1
 rwa [length_map] at this
theorem Zjy (h:p∈Xt ps x v):p=(x,v)\/p∈ps:=by
 unfold Xt at h
 split at h
 ·obtain ⟨r,B,e⟩:=mem_map.mp h
  split at e
  ·rename_i z;rw [<- e,z];exact .inl rfl
  ·rw [<- e];exact .inr B
 ·rcases mem_append.mp h with h | h
  ·exact .inr h
  ·exact .inl (mem_singleton.mp h)
theorem HeldOk.put (h:HeldOk NS ps)(G:x∈NS)(B:Xa v):HeldOk NS (Xt ps x v):=by
 refine ⟨?_,fun p hp=>?_⟩
 ·rw [Zcw]
  by_cases z:x∈ps.map (·.1)
  ·rw [if_pos z];exact h.1
  ·rw [if_neg z,Sg]
   exact ⟨h.1,by simp,fun a I b J e=>z (by rw [mem_singleton.mp J] at e;rw [<- e];exact I)⟩
 ·rcases Zjy hp with rfl | z
  ·exact ⟨G,B⟩
  ·exact h.2 p z
theorem HeldOk.but (h:HeldOk NS ps):HeldOk NS (Xc ps x):=by
 have z:(Xc ps x).Sublist ps:=Oc
 exact ⟨h.1.sublist (z.map (·.1)),fun p hp=>h.2 p (z.subset hp)⟩
theorem Zin (ps:List (Str×V))(x:Str):UX (ps.map kP) (QH x)=(Xc ps x).map kP:=by
 unfold UX Xc
 rw [NZ]
 congr 1
 apply List.filter_congr
 intro p _
 show _=!decide (p.1=x)
 by_cases z:p.1=x
 ·simp [kP,z]
 ·simp [kP,z]
theorem Zij (h:lk ps x=none):Xc ps x=ps:=by
 unfold Xc
 rw [List.filter_eq_self]
 intro p hp
 have:p.1≠x:=fun z=>by
  have h2:∀ {l:List (Str×V)},(∃ p∈l,p.1=x)->lk l x≠none:=by
   intro l
   induction l with
   | nil=>rintro ⟨_,h,_⟩;cases h
   | cons a l ih =>
    rintro ⟨p,hp,e⟩
    rw [WX]
    by_cases z:a.1=x
    ·rw [if_pos z];intro y;cases y
    ·rw [if_neg z]
     rcases mem_cons.mp hp with y | y
     ·rw [y] at e;exact absurd e z
     ·exact ih ⟨p,y,e⟩
  exact h2 ⟨p,hp,z⟩ h
 simp [this]
section
variable {P:Qk}{w:Qs}{K:Qa}{mg:Str->Option Qc}{base:Heap}{CR CS Pl:Addr}
theorem Zdp (xs:List V):XA xs (some 1) none=xs.tail:=by
 unfold XA
 rw [show (1:Int)=((1:Nat):Int) from rfl,HT.sIx_nat]
 show (xs.drop (min 1 xs.length)).take (xs.length - min 1 xs.length)=xs.tail
 cases xs with
 | nil=>rfl
 | cons x r=>rw [PV (by rw [length_cons];omega)];show r.take (r.length+1 - 1)=r;rw [TJ,take_of_length_le (Qf _)]
theorem ZnI (J:WfP pls):∀ k,k<=pls.length->∀ j∈(rd pls k).tail,∃ m q,j=m+1/\pls[m]?=some q:=by
 intro k
 induction k using PY with
 | ind k ih =>
  intro Z j B
  cases k with
  | zero=>simp [rd,bk] at B
  | succ k =>
   have G:=getElem?_eq_getElem (show k < pls.length by omega)
   have W:=J k _ G
   rw [Zkr J G] at B
   obtain ⟨r0,Y,I⟩:=JG (Zkp pls pls[k].ah)
   rw [I] at B
   rcases mem_append.mp (show j∈Y++[k+1] from B) with z | z
   ·exact ih pls[k].ah (by omega) (by omega) j (by rw [I];exact z)
   ·exact ⟨k,_,mem_singleton.mp z,G⟩
theorem Zmd (h:HeldOk NS ps)(z:s.ok NS):HeldOk NS (foS s ps):=by
 cases s with
 | set x v=>exact h.put z.1 z.2
 | clr x=>exact h.but
inductive Zge (vs:List V)(H:Hp)(Q:VK)(w_3:XK):Prop
 | mk (sl:Addr) (pls:List ZE) (k:Nat) (NS:List Str) (Δ:Rs):vs=[.ref sl,.int (k:Int)]->Sep ((sl,StopL pls)::Δ) H->WfP pls->k<=pls.length->pls.length<=500->(∀ q∈pls,q.st.ok NS)->NS.length<=50->(∀ (d:Addr) (H':Hp) (ps:List (Str×V)),Sep ((d,Dic (ps.map kP))::(sl,StopL pls)::Δ) H'->HeldOk NS ps->(envs pls)[k]?=some (lk ps)->Q (.ref d) H')->Zge vs H Q w_3
abbrev nLl:List Str:=["_law_stops","_law_place","_law_found","_law_spot","_law_step_here"]
abbrev Zjl:List Str:=["_law_stops","_law_place"]
theorem scLl:Zo nLl Zjl (Zi s_l_all):={}
theorem Zmu (F:Fun K "_law_all" "_law_all" s_l_all f fd)(T:Yj mg)(DRo:Def P w K mg base 4 "_law_road" Zjq ZbY):FnOk P w K mg base ZI 5 f fd Zjl Zge:=by
 refine F.ok scLl (fun cdv A outer s H vs Q E hr h=>?_)
 obtain ⟨J,pls,k,NS,Δ,rfl,S,hw,hk,hpl,hok,hNl,q⟩:=h
 refine' ⟨?t,?h,?r⟩
 case h =>
  conv=>arg 2;whnf
  with_reducible refine' (Zf ?h1 (Zf (Wr ?h2 ?h3 ?h4 ?h5 (Zf ?h6 (Zg (ZZ ?h7 (Zg ?h8) (Zg ?h9)))) ?h10) (Zg ?h11)))
  case h1=>exact Zs (i:=2) scLl.nd rfl (Qy rfl) ZiX
  case h2=>exact QU
  case h3=>exact rfl
  case h4=>exact ZbO (Yc YB (Zy DRo hr (Zb (pv 0) (Zb (pv 1) Za))) (ZR Zc) Yi)
  case h5=>exact ZW (i:=3) scLl.nd rfl (Qy rfl)
  case h6=>exact Zs (i:=4) scLl.nd rfl (Qy rfl) (Zk ZK (Zk Zt (pv 0) (pv 3) (fun _ _=>rfl)) Zc (fun _ _=>rfl))
  case h7=>exact ZG ZY (Zk ZK (pv 4) Zc (fun _ _=>rfl)) ZM (ZA _)
  case h8=>exact ZbP (VQ hr) (pv 2) (Zk ZK (pv 4) Zc (fun _ _=>rfl)) (Zk ZK (pv 4) Zc (fun _ _=>rfl)) rfl
  case h9=>exact Yy (ZiY (pv 2) (Zk ZK (pv 4) Zc (fun _ _=>rfl)) XV ⟨rfl,rfl,rfl,rfl⟩)
  case h10=>exact fun _=>rfl
  case h11=>exact Zl (pv 2)
 refine fun d hd=>?_
 generalize B:upd H d _=H1
 have S1:=S.newE hd B
 clear B
 refine ⟨_,rfl,_,rfl,J,pls,k,rfl,S1.get J,hw,hk,by omega,fun l H2 s2 hl2 el2=>?_⟩
 have S2:=S1.mono s2
 refine ⟨_,rfl,l,_,rfl,SqL.of el2,fun Z hl3=>⟨Z,rfl,⟨_,SqL.of Zh⟩,?_⟩⟩
 rw [Zdp]
 generalize B:upd H2 Z _=H3
 have S3:=S2.newE hl3 B
 clear B
 have hlen:(rd pls k).tail.length<=501:=by
  rw [List.length_tail]
  unfold rd
  rw [length_reverse]
  have:=Zdg pls (k+1) k;omega
 refine Zdx (K:=K) (xs:=(rd pls k).tail.map nV) (fun i σ H'=>∃ x3 x4,σ=[some (.ref J),some (.int (k:Int)),some (.ref d),x3,x4]/\Sep ((d,Dic ((((rd pls k).tail.take i).foldl (foK pls) []).map kP))::(J,StopL pls)::(Z,ZO ((rd pls k).tail.map nV))::Δ) H'/\HeldOk NS (((rd pls k).tail.take i).foldl (foK pls) [])) ⟨_,_,rfl,?_,TD,fun _ h=>nomatch h⟩ (fun i σ H' _ h=>?_) ?_ ?_
 ·have G:Sep ((Z,ZO ((rd pls k).tail.map nV))::(d,Dic [])::(J,StopL pls)::Δ) H3:=by rw [List.map_tail];exact S3
  exact (G.pull J).pull d
 ·obtain ⟨_,_,_,S',_⟩:=h;exact SqL.of (S'.get Z)
 ·rintro i v σ H4 hv ⟨x3,x4,rfl,G,Y⟩
  rw [getElem?_map] at hv
  cases hj:(rd pls k).tail[i]? with
  | none=>rw [hj] at hv;cases hv
  | some j =>
   rw [hj] at hv
   cases (show some (nV j)=some v from hv)
   obtain ⟨m,q9,rfl,I⟩:=ZnI hw k hk j (mem_of_getElem? hj)
   have hm:=(Qj.mp I).1
   obtain ⟨xs,a,y,z,esl,hxa,ea,_,⟨b,s9,rfl,hs9,eb⟩,_⟩:=StopL.at (G.get J) (show m+1<=pls.length by omega)
   rw [getElem?_map,I] at hs9
   cases (show some q9.st=some s9 from hs9)
   have hsok:=hok q9 (mem_of_getElem? I)
   have hfo:((rd pls k).tail.take (i+1)).foldl (foK pls) []=foS q9.st (((rd pls k).tail.take i).foldl (foK pls) []):=by
    rw [List.take_succ,hj,Sh]
    show foS (pls.getD m ⟨0,.clr "",0,0⟩).st _=_
    rw [getD_eq_getElem?_getD,I];rfl
   rw [hfo]
   generalize ((rd pls k).tail.take i).foldl (foK pls) []=ps at *
   have hps:ps.length<=50:=by have:=Y.few;omega
   refine ⟨_,rfl,_,rfl,J,_,_,_,rfl,rfl,SqL.of esl,Zm hxa,a,_,_,_,rfl,rfl,SqT.of ea,rfl,?_⟩
   have W:=Zmd Y hsok
   generalize hst:q9.st=s9 at *
   have ed:=G.get d
   cases s9 with
   | set x v =>
    refine ⟨_,rfl,b,_,_,_,rfl,rfl,SqT.of eb,Zm (j:=0) rfl,rfl,_,rfl,?_⟩
    rw [decide_eq_true rfl]
    refine ZF ⟨_,rfl,b,_,_,_,rfl,rfl,SqT.of eb,Zm (j:=2) rfl,_,rfl,_,rfl,b,_,_,_,rfl,rfl,SqT.of eb,Zm (j:=1) rfl,d,_,rfl,DPut.k (k:=QH x) ed (Xn (show _<=1000 by rw [length_map];omega)),?_⟩
    generalize B:upd H4 d _=H5
    have S5:=G.putE B
    clear B
    rw [show YJ (ps.map kP) (QH x) v=(Xt ps x v).map kP from ZaD ps x v] at S5
    exact ⟨_,_,rfl,S5,W⟩
   | clr x =>
    refine ⟨_,rfl,b,_,_,_,rfl,rfl,SqT.of eb,Zm (j:=0) rfl,rfl,_,rfl,?_⟩
    rw [show decide (V.str "clear"=V.str (Qn "set"))=false by decide +kernel]
    refine Zz ⟨_,rfl,d,rfl,.inl ⟨_,.inl ed⟩,_,rfl,b,_,_,_,rfl,rfl,SqT.of eb,Zm (j:=1) rfl,_,QH x,ed,rfl,fun v ev=>?_,fun ev=>?_⟩
    ·generalize B:upd H4 d _=H5
     have S5:=G.putE B
     clear B
     rw [Zin] at S5
     exact ⟨_,_,rfl,S5,W⟩
    ·have e9:foS (.clr x) ps=ps:=Zij (show lk ps x=none from ev)
     rw [e9]
     exact ⟨_,_,rfl,G,Y⟩
 ·rintro σ H4 ⟨x3,x4,rfl,G,Y⟩
  rw [length_map,take_of_length_le (Qf _)] at G Y
  exact ⟨_,rfl,q d H4 _ (G.drop Z) Y (ZkC hw k hk)⟩
end
end K26
namespace L2
open PySem PySem.Spec PyProof.Rows
end L2
namespace K26
open PySem L2
def Wb (p:Nat->Bool):List Nat->List Nat
 | []=>[]
 | a::r=>if p a=true then [a] else a::Wb p r
def paper (pls:List ZE)(x:Str)(k:Nat):List Nat:=Wb (Yk pls x) (bk pls (k+1) k)
theorem Zep (p:Nat->Bool):∀ l:List Nat,(Wb p l).length<=l.length
 | []=>Qf _
 | a::r=>by
  unfold Wb
  split
  ·show 1<=r.length+1;omega
  ·show (Wb p r).length+1<=r.length+1;have:=Zep p r;omega
theorem Zcv (pls:List ZE)(x:Str)(k:Nat):(paper pls x k).length<=k+1:=Qo (Zep _ _) (Zdg pls _ _)
theorem has0 :Yk pls x 0=false:=by simp [Yk,stN]
theorem VF {k:Nat}(h:Yk pls x k=true):paper pls x k=[k]:=by
 cases k with
 | zero=>rw [has0] at h;cases h
 | succ k=>show Wb _ ((k+1)::_)=_;unfold Wb;rw [if_pos h]
theorem Vj :paper pls x 0=[0]:=by
 show Wb _ [0]=[0];unfold Wb;rw [if_neg (by rw [has0];decide)];rfl
theorem ZaC (z:WfP pls){k:Nat}(B:k < pls.length)(h:Yk pls x (k+1)=false):paper pls x (k+1)=(k+1)::paper pls x (pls.getD k ⟨0,.clr "",0,0⟩).ah:=by
 have G:=z.at B
 show Wb _ ((k+1)::bk pls (k+1) _)=_
 unfold Wb
 rw [if_neg (by rw [h];decide),VL z _ (by omega) (k+1) (by omega)];rfl
section
variable {P:Qk}{w:Qs}{K:Qa}{mg:Str->Option Qc}{base:Heap}{CR CS Pl:Addr}
theorem ZbI {x:Str}{m:Nat}(es:(pls.map (·.st))[m]?=some s):Yk pls x (m+1)=decide (V.str s.nm=V.str x):=by
 unfold Yk
 rw [ZhM es]
 by_cases z:s.nm=x
 ·rw [decide_eq_true (by rw [z]),decide_eq_true (by rw [z])]
 ·rw [decide_eq_false (fun y=>z (Qu y)),decide_eq_false (fun y=>z (V.str.inj y))]
theorem ZaK {k m:Nat}(h:Xb pls x k=some (m+1))(es:(pls.map (·.st))[m]?=some s):Ys pls x k=stW s:=by
 unfold Ys
 rw [h]
 show stW (pls.getD (m+1 - 1) _).st=_
 rw [TJ,getD_eq_getElem?_getD]
 rw [getElem?_map] at es
 cases z:pls[m]? with
 | none=>rw [z] at es;cases es
 | some q=>rw [z] at es;cases es;rfl
def NvI (v:V):Prop:=v=.non\/Xa v
def NvP (v:V):Prop:=v=.non\/(∃ i,v=.int i)\/∃ x,v=.str x
theorem Ur (h:NvP v):v=.non\/(∃ i,v=.int i)\/∃ x,v=.str x:=h
theorem ZfK (h:NvI v):NvP v:=by
 rcases h with h | h
 ·exact .inl h
 ·cases v<;>first | exact .inr (.inl ⟨_,rfl⟩) | exact .inr (.inr ⟨_,rfl⟩) | exact h.elim
theorem ZjU {k:Nat}(B:WfP pls)(z:k<=pls.length)(ok:∀ q∈pls,q.st.ok NS):NvI (Ys pls x k):=by
 cases h:Xb pls x k with
 | none=>exact .inl (by unfold Ys;rw [h])
 | some j =>
  obtain ⟨h1,h2,_⟩:=Zcu B z h
  obtain ⟨i,rfl⟩:∃ i,j=i+1:=⟨j - 1,by omega⟩
  have hp:=getElem?_eq_getElem (show i < pls.length by omega)
  rw [ZaK h (s:=pls[i].st) (by rw [getElem?_map,hp];rfl)]
  have:=ok _ (mem_of_getElem? hp)
  cases hs:pls[i].st with
  | set y v=>rw [hs] at this;exact .inr this.2
  | clr y=>exact .inl rfl
theorem Zfn {x:Str}{k:Nat}(B:WfP pls)(z:k<=pls.length)(ok:∀ q∈pls,q.st.ok NS):NvP (Ys pls x k):=ZfK (ZjU B z ok)
theorem Zlv (B:NvP u)(z:NvP v):scal u v=true:=by
 rcases Ur B with rfl | ⟨i,rfl⟩ | ⟨x,rfl⟩<;>rcases Ur z with rfl | ⟨j,rfl⟩ | ⟨y,rfl⟩<;>rfl
inductive Zgk (K:Qa)(CR CS:Addr)(vs:List V)(H:Hp)(Q:VK)(w_3:XK):Prop
 | mk (r:Addr) (pls:List ZE) (nds:List Nd) (tabs:List (Zn×V)) (k:Nat) (x:Str):vs=[.ref r,.int (k:Int),.str x]->RdR K CR CS r pls nds tabs H->WfP pls->k<=pls.length->pls.length<=10000->(∀ t H',Same H H'->H' t=some (.tup ((paper pls x k).map nV))->Q (.ref t) H')->Zgk K CR CS vs H Q w_3
abbrev nLP:List Str:=["roads","place","name","back"]
abbrev ZfR:List Str:=["roads","place","name"]
theorem scLP:Zo nLP ZfR (Zi s_look_paper):={}
theorem ZnA (F:Fun K "look_paper" "look_paper" s_look_paper f fd)(T:Yj mg)(TR:XO K CR)(B:DefM P w K mg base 3 CR "step_has" ZcT (ZcV K CR CS))(z:DefM P w K mg base 3 CR "ahead" ZcR (VS K CR CS)):FnOk P w K mg base ZI 4 f fd ZfR (Zgk K CR CS):=by
 refine F.ok scLP (fun cdv A outer s H vs Q E hr h=>?_)
 obtain ⟨r,pls,nds,I,k,x,rfl,R,hw,hk,hpl,q⟩:=h
 refine' ⟨?t,?h,?r⟩
 case h =>
  conv=>arg 2;whnf
  with_reducible refine' (Zf ?h1 (Zf (Vk ?h2 ?h3 (Zg ?h4)) (Zg ?h5)))
  case h1=>exact Zs (i:=3) scLP.nd rfl (Qy rfl) (ZT (Zb (pv 1) Za))
  case h2=>exact QU
  case h3=>exact PW.pt (ZdR (Ws (Xm (Yo B TR.cl hr (pv 0) (Zb (Zk Zt (pv 3) (WV Ww Zc) (fun _ _=>rfl)) (Zb (pv 2) Za))))) (ZbQ (UI (ZbN (Yo z TR.cl hr (pv 0) (Zb (Zk Zt (pv 3) (WV Ww Zc) (fun _ _=>rfl)) Za))))))
  case h4=>exact Yy (Xs QG QO QP YS (pv 3) (Zb (Yo z TR.cl hr (pv 0) (Zb (Zk Zt (pv 3) (WV Ww Zc) (fun _ _=>rfl)) Za)) Za))
  case h5=>exact Zl (ZQ Xx rfl T.tuple (by decide +kernel) (Zb (pv 3) Za))
 refine ⟨_,rfl,(by show 1<=Qg;decide),fun l hl=>?_⟩
 refine ⟨fun m σ H'=>∃ (bs:List Nat) (j:Nat),σ=[some (.ref r),some (.int (k:Int)),some (.str x),some (.ref l)]/\Same H H'/\H' l=some (.lst ((bs++[j]).map nV))/\m=j/\j<=k/\bs.length+j<=k/\bs++paper pls x j=paper pls x k,
  ⟨k,[],k,rfl,Zv hl _,Zh,rfl,Qf _,by show 0+k<=k;omega,rfl⟩,?_⟩
 rintro m σ H2 ⟨bs,j,rfl,s2,el,hm,hj,hbl,G⟩
 have R2:=Up.up R s2
 obtain ⟨st2,la2,ls2,lt2,lc2,S2⟩:=id R2
 obtain ⟨J,Y⟩:=S2.get r
 have W:H2 l=some (.lst (bs.map nV++[nV j])):=by rw [el,map_append];rfl
 refine ⟨_,rfl,r,J,_,rfl,Y,Xg (by decide +kernel),_,rfl,_,rfl,l,_,_,_,rfl,rfl,SqL.of W,US _ _,_,rfl,r,pls,nds,I,j,x,rfl,R2,by omega,_,rfl,?_⟩
 have Z:bs++[j]=paper pls x k->∀ t,H2 t=none->Q (.ref t) (upd H2 t (.tup ((bs++[j]).map nV))):=fun e t ht=>q t _ (s2.trans (Zv ht _)) (by rw [Zh,e])
 cases hh:Yk pls x j with
 | true =>
  rw [VF hh] at G
  exact Zz (Zz ⟨_,rfl,l,_,rfl,.inl ⟨SqL.of el,Z G⟩⟩)
 | false =>
  refine ZF ⟨_,rfl,r,J,_,rfl,Y,Xg (by decide +kernel),_,rfl,_,rfl,l,_,_,_,rfl,rfl,SqL.of W,US _ _,r,pls,nds,I,j,rfl,R2,by omega,?_⟩
  cases j with
  | zero =>
   rw [Vj] at G
   exact ⟨_,rfl,Zz ⟨_,rfl,l,_,rfl,.inl ⟨SqL.of el,Z G⟩⟩⟩
  | succ j =>
   have ha:=hw.at (show j < pls.length by omega)
   rw [ZaC hw (by omega) hh] at G
   have hlb:∀ c,Same H (upd H2 l c):=fun c b o e=>by rw [Zj (Zx e hl)];exact s2 _ _ e
   refine ⟨_,rfl,ZF ⟨_,fun σ' H' h=>h,_,rfl,.inl ⟨rfl,_,SqL.of el⟩,_,rfl,r,J,_,rfl,Y,Xg (by decide +kernel),_,rfl,_,rfl,l,_,_,_,rfl,rfl,SqL.of W,US _ _,r,pls,nds,I,j+1,rfl,R2,by omega,l,_,_,rfl,rfl,el,Xn (show _<=20000 by rw [length_map,length_append];show _+1<=_;omega),?_⟩⟩
   refine ⟨(pls.getD j ⟨0,.clr "",0,0⟩).ah,by omega,bs++[j+1],_,rfl,hlb _,?_,rfl,by omega,by rw [length_append];show _+1+_<=_;omega,by rw [Jx];exact G⟩
   rw [Zh,map_append (l₁:=bs++[j+1])];rfl
theorem Zio (hw:WfP pls)(x:Str):∀ k F,k<=pls.length->(envs pls)[k]?=some F->(F x).getD .non=Ys pls x k:=by
 intro k
 induction k using PY with
 | ind k ih =>
  intro F hk J
  cases k with
  | zero=>rw [env0] at J;cases J;show V.non=_;unfold Ys;rw [Vc]
  | succ k =>
   have B:k < pls.length:=by omega
   have W:=getElem?_eq_getElem B
   have ha:=hw k _ W
   have I:∃ G,(envs pls)[pls[k].ah]?=some G:=⟨_,getElem?_eq_getElem (by rw [Xd];omega)⟩
   obtain ⟨G,I⟩:=I
   rw [ZgG hw W I] at J
   cases J
   have es:(pls.map (·.st))[k]?=some pls[k].st:=by rw [getElem?_map,W];rfl
   have i1:=ih _ (by omega) G (by omega) I
   have Z:=ZbI (x:=x) es
   by_cases z:pls[k].st.nm=x
   ·rw [z,decide_eq_true rfl] at Z
    rw [ZaK (VA Z) es]
    cases e:pls[k].st with
    | set y v=>rw [e] at z;cases (show y=x from z);show ((if x=x then some v else G x)).getD .non=v;rw [if_pos rfl];rfl
    | clr y=>rw [e] at z;cases (show y=x from z);show ((if x=x then none else G x)).getD .non=.non;rw [if_pos rfl];rfl
   ·have Y:Yk pls x (k+1)=false:=by rw [Z,decide_eq_false fun y=>z (V.str.inj y)]
    have e2:Ys pls x (k+1)=Ys pls x pls[k].ah:=by
     unfold Ys;rw [Zax hw B Y,getD_eq_getElem?_getD,W];rfl
    rw [e2,<- i1]
    cases e:pls[k].st with
    | set y v=>rw [e] at z;show ((if x=y then some v else G x)).getD .non=_;rw [if_neg (fun q=>z q.symm)]
    | clr y=>rw [e] at z;show ((if x=y then none else G x)).getD .non=_;rw [if_neg (fun q=>z q.symm)]
end
end K26
namespace L2
open PySem PySem.Spec PyProof.Rows PyProof.Rows.KTD
section
variable {δ:Type}{Rr:δ->Qc->Prop}{prog:Qk}{w:Qs}{A:QD}{E:Qc->Qe->Prop}{s:Qe}{a:Addr}{D:List (Str×δ)}{k:Str}{tk:Tok}
end
section
variable {X:Cx}{o e:Expr}{apos cpos:Pos}{te:TE}{d:Addr}{D:List (Str×List V)}
end
end L2
namespace L2
open PySem PySem.Spec PyProof.Rows
section
variable {X:Cx}
end
section
variable {prog:Qk}{w:Qs}{A:QD}{E:Qc->Qe->Prop}{s:Qe}
end
section
variable {X:Cx}
end
section
variable {prog:Qk}{w:Qs}{A:QD}{E:Qc->Qe->Prop}{s:Qe}
theorem Ux {k:Nat}(hi:s.heap.IsTupleIter i t k)(Y:s.heap.IsTuple t B)(W:B[k]?=some x)(q:∀ h',h'.IsTupleIter i t (k+1)->Tb i s.heap h'->Q x { s with heap:=h' }):Qq (Qw prog w) A (QJ (.ref i)) Q E s:=by
 obtain ⟨o,G,I,z⟩:=id hi
 obtain ⟨u,Z,_,n,J⟩:=Y
 unfold QJ
 refine Qb (QV (name:=Qn "__next__") hi.typeIs GG (Go GG hi.typeIs Th ?_ (PZ _)))
 refine Qb (m:=Nn (.ref i) 0) (QN G z (x:=.ref t) rfl ?_)
 show Qq _ _ (if (Qv t == GP)=true then _ else _) _ _ s
 rw [if_neg (by exact Qp)]
 refine Qb (m:=Nn (.ref i) 1) (QN G z (x:=.int k 0) rfl ?_)
 refine Qb (m:=seqItems? (.ref t)) (Gf Z J ?_)
 simp only [GM,W]
 exact Qb (wpAny_setField G z (by simp) (Qh ⟨x,rfl,Qh (q _ ⟨_,RA _ G (Obj.isFreed_of_fields (OG z _)),(Obj.cls_mapFields ..).trans I,by rw [OG z];simp [Jv]⟩ (GB ..))⟩))
theorem Zbk {k:Nat}(I:A.handled=none)(hi:s.heap.IsTupleIter i t k)(Y:s.heap.IsTuple t z)(W:z[k]?=none)(q:∀ h' e,Heap.ExtBut i s.heap h'->(∃ o,h'.get? e=some o/\o.cls=.type "StopIteration")->E (.ref e) { s with heap:=h' }):Qq (Qw prog w) A (QJ (.ref i)) Q E s:=by
 obtain ⟨o,G,oc,B⟩:=id hi
 obtain ⟨u,Z,_,n,J⟩:=Y
 unfold QJ
 refine Qb (QV (name:=Qn "__next__") hi.typeIs GG (Go GG hi.typeIs Th ?_ (PZ _)))
 refine Qb (m:=Nn (.ref i) 0) (QN G B (x:=.ref t) rfl ?_)
 show Qq _ _ (if (Qv t == GP)=true then _ else _) _ _ s
 rw [if_neg (by exact Qp)]
 refine Qb (m:=Nn (.ref i) 1) (QN G B (x:=.int k 0) rfl ?_)
 refine Qb (m:=seqItems? (.ref t)) (Gf Z J ?_)
 simp only [GM,W]
 refine Qb (Jh (Qb (wpAny_setField G B (by simp) ?_)))
 refine Qb (m:=newExc (.type "StopIteration") []) ?_
 simp only [newExc,newTuple]
 refine Qb (Gd ?_ (by size_fits))
 refine Qb (m:=firstArgMember _ _) (Se (a:=GP) (by first | rfl | (simp only [firstArgMember];rfl)) ?_)
 refine Gd ?_ (by size_fits)
 simp only [raiseNew]
 refine Qb (wpAny_handled ?_)
 first | rw [show A.in1.handled=none from I] | rw [I]
 exact Qb (Qh (wpAny_throw (q _ _ (((GB ..).extBut.push _).push _) ⟨_,Ql _ rfl,rfl⟩)))
theorem ZjW {z TI TO I J l1 l2:Addr}{k:Nat}{xs ys:Array Qc}{x y a b:Qc}{Q:Option Qc->Qe->Prop}(D:Nk z TI TO I J l1 l2)(hz:TH s.heap z TI TO .none)(hTI:Jl s.heap TI (.ref I) (.ref J))(hTO:Jl s.heap TO a b)
 (h1:s.heap.IsTupleIter I l1 k) (h2:s.heap.IsTupleIter J l2 k) (t1:s.heap.IsTuple l1 xs) (t2:s.heap.IsTuple l2 ys) (hx:xs[k]?=some x) (hy:ys[k]?=some y)
 (q:∀ h',TH h' z TI TO (Jv s.heap.objs.size)->Jl h' TO x y->h'.IsTupleIter I l1 (k+1)->h'.IsTupleIter J l2 (k+1)->Jl h' s.heap.objs.size x y->h'.objs.size=s.heap.objs.size+1 ->
  (∀ c o,c≠z->c≠TO->c≠I->c≠J->s.heap.get? c=some o->h'.get? c=some o)->Q (some (.ref s.heap.objs.size)) { s with heap:=h' }):Qq (Qw prog w) A (Sm (.ref z)) Q E s:=by
 have hT:s.TypeIs (.ref z) "zip":=⟨_,hz,rfl⟩
 unfold Sm
 refine Qb (Sr (QV (name:=Qn "__next__") hT Js (Go Js hT SL ?_ (Sj _))))
 refine Qb (m:=Nn (.ref z) 2) (QN hz rfl (x:=.bool false) rfl ?_)
 refine Qb (m:=Nn (.ref z) 3) (QN hz rfl (x:=.ref TI) rfl ?_)
 refine Qb (Gf hTI rfl ?_)
 refine Qb (m:=QQ (.ref z)) ?_
 unfold QQ
 refine Qb (QN hz rfl (x:=.none) rfl (Qh ?_))
 simp only [if_true]
 refine Qb (Jh ?_)
 refine Qb (QN hz rfl (x:=.ref TO) rfl ?_)
 refine Qb (Gr hz (by simp) fun ha Z sa=>?_)
 replace Z:TH ha z TI TO .ellipsis:=Z
 refine Qb ?_
 simp only [SM,Rx,JS,RQ]
 have Ea:=sa.extBut
 refine Qb (Qb (PD ?_))
 refine Qb (m:=QJ (.ref I)) (Ux (h1.extBut Ea D.i1z) (t1.extBut Ea D.l1z) hx fun hb i1b sb=>Qh ?_)
 have Eb:=sb.extBut
 have TOb:Jl hb TO a b:=Eb _ _ D.TOi1 (Ea _ _ D.TOz hTO)
 refine Qb (Gf TOb rfl ?_)
 refine Qb (PN TOb fun hc Y sc=>?_)
 replace Y:Jl hc TO x b:=Y
 have Ec:=sc.extBut
 refine Qb (Sf (Qh ?_))
 refine Qb (Qb (PD ?_))
 refine Qb (m:=QJ (.ref J)) (Ux (((h2.extBut Ea D.i2z).extBut Eb D.i12.symm).extBut Ec D.TOi2.symm) (((t2.extBut Ea D.l2z).extBut Eb D.l2i1).extBut Ec D.l2TO) hy fun hd i2d sd=>Qh ?_)
 have Ed:=sd.extBut
 have TOd:Jl hd TO x b:=Ed _ _ D.TOi2 Y
 refine Qb (Gf TOd rfl ?_)
 refine Qb (PN TOd fun B G se=>?_)
 replace G:Jl B TO x y:=G
 have Ee:=se.extBut
 refine Qb (Sf (Qh (Qh ?_)))
 refine Qb (Gf G rfl ?_)
 refine Qb (wpAny_newTuple ?_)
 have hsz:B.objs.size=s.heap.objs.size:=by rw [se.1,sd.1,sc.1,sb.1,sa.1]
 have all:∀ c o,c≠z->c≠TO->c≠I->c≠J->s.heap.get? c=some o->B.get? c=some o:=fun c o W c2 c3 c4 e=>Ee _ _ c2 (Ed _ _ c4 (Ec _ _ c2 (Eb _ _ c3 (Ea _ _ W e))))
 have ze:TH B z TI TO .ellipsis:=Ee _ _ D.TOz.symm (Ed _ _ D.i2z.symm (Ec _ _ D.TOz.symm (Eb _ _ D.i1z.symm Z)))
 have i1e:B.IsTupleIter I l1 (k+1):=((i1b.extBut Ec D.TOi1.symm).extBut Ed D.i12).extBut Ee D.TOi1.symm
 have i2e:B.IsTupleIter J l2 (k+1):=i2d.extBut Ee D.TOi2.symm
 have zl:z < B.objs.size:=Qi ze
 refine Qb (m:=JP (.ref z) (.ref B.objs.size)) ?_
 unfold JP
 refine Qb (Gr (show TH (B.push { cls:=.type "tuple",data:=.seq #[x,y] }) z TI TO .ellipsis from Qd _ ze) (by simp) fun hf zf sf=>?_)
 replace zf:TH hf z TI TO (Jv B.objs.size):=zf
 refine Gr zf (by simp) fun hg zg sg=>?_
 replace zg:TH hg z TI TO (Jv B.objs.size):=zg
 have up:∀ c o,c≠z->B.get? c=some o->hg.get? c=some o:=fun c o W e=>sg.extBut _ _ W (sf.extBut _ _ W (Qd _ e))
 have new:Jl hg B.objs.size x y:=sg.extBut _ _ (GC zl) (sf.extBut _ _ (GC zl) (Ql _ rfl))
 have sz:hg.objs.size=B.objs.size+1:=by rw [sg.1,sf.1,Gj]
 rw [hsz] at zg new sz
 refine Qh ⟨_,rfl,?_⟩
 show Qq _ _ (pure (some (Qv B.objs.size))) _ _ _
 rw [hsz]
 refine Qh (q hg zg (up _ _ D.TOz G) ?_ ?_ new sz fun c o W c2 c3 c4 e=>up c o W (all c o W c2 c3 c4 e))
 ·obtain ⟨o,eo,r⟩:=i1e;exact ⟨o,up _ _ D.i1z eo,r⟩
 ·obtain ⟨o,eo,r⟩:=i2e;exact ⟨o,up _ _ D.i2z eo,r⟩
theorem ZlH {z TI TO J Y l1 l2:Addr}{k:Nat}{xs:Array Qc}{a b:Qc}{Q:Option Qc->Qe->Prop}(hh:A.handled=none)(D:Nk z TI TO J Y l1 l2)(I:TH s.heap z TI TO .none)(Z:Jl s.heap TI (.ref J) (.ref Y))(hTO:Jl s.heap TO a b)
 (h1:s.heap.IsTupleIter J l1 k) (t1:s.heap.IsTuple l1 xs) (hx:xs[k]?=none)
 (q:∀ h',(∀ c o,c≠z->c≠TO->c≠J->c≠Y->s.heap.get? c=some o->h'.get? c=some o)->Q none { s with heap:=h' }):Qq (Qw prog w) A (Sm (.ref z)) Q E s:=by
 have hT:s.TypeIs (.ref z) "zip":=⟨_,I,rfl⟩
 unfold Sm
 refine Qb (Sr (QV (name:=Qn "__next__") hT Js (Go Js hT SL ?_ (Sj _))))
 refine Qb (m:=Nn (.ref z) 2) (QN I rfl (x:=.bool false) rfl ?_)
 refine Qb (m:=Nn (.ref z) 3) (QN I rfl (x:=.ref TI) rfl ?_)
 refine Qb (Gf Z rfl ?_)
 refine Qb (m:=QQ (.ref z)) ?_
 unfold QQ
 refine Qb (QN I rfl (x:=.none) rfl (Qh ?_))
 simp only [if_true]
 refine Qb (Jh ?_)
 refine Qb (QN I rfl (x:=.ref TO) rfl ?_)
 refine Qb (Gr I (by simp) fun ha G W=>?_)
 replace G:TH ha z TI TO .ellipsis:=G
 refine Qb ?_
 simp only [SM,Rx,JS,RQ]
 refine Qb (Qb (PD ?_))
 refine Qb (m:=QJ (.ref J)) (Zbk hh (h1.extBut W.extBut D.i1z) (t1.extBut W.extBut D.l1z) hx fun hb e Eb he=>?_)
 obtain ⟨oe,B,ce⟩:=he
 have zb:TH hb z TI TO .ellipsis:=Eb _ _ D.i1z.symm G
 have ez:e≠z:=fun x=>by subst x;rw [zb] at B;cases B;simp at ce
 refine Gr zb (by simp) fun hc _ sc=>?_
 refine Qb (NI (T:="StopIteration") (b:=true) ⟨oe,sc.extBut _ _ ez B,ce⟩ isSubtype_stop ?_)
 exact Qh (q _ fun c o c1 _ c3 _ x=>sc.extBut _ _ c1 (Eb _ _ c3 (W.extBut _ _ c1 x)))
theorem ZjV {z TI TO Y i2 l1 l2:Addr}{k:Nat}{xs ys:Array Qc}{x a b:Qc}{Q:Option Qc->Qe->Prop}(hh:A.handled=none)(D:Nk z TI TO Y i2 l1 l2)(J:TH s.heap z TI TO .none)(hTI:Jl s.heap TI (.ref Y) (.ref i2))(hTO:Jl s.heap TO a b)
 (h1:s.heap.IsTupleIter Y l1 k) (h2:s.heap.IsTupleIter i2 l2 k) (t1:s.heap.IsTuple l1 xs) (t2:s.heap.IsTuple l2 ys) (hx:xs[k]?=some x) (hy:ys[k]?=none)
 (q:∀ h',(∀ c o,c≠z->c≠TO->c≠Y->c≠i2->s.heap.get? c=some o->h'.get? c=some o)->Q none { s with heap:=h' }):Qq (Qw prog w) A (Sm (.ref z)) Q E s:=by
 have hT:s.TypeIs (.ref z) "zip":=⟨_,J,rfl⟩
 unfold Sm
 refine Qb (Sr (QV (name:=Qn "__next__") hT Js (Go Js hT SL ?_ (Sj _))))
 refine Qb (m:=Nn (.ref z) 2) (QN J rfl (x:=.bool false) rfl ?_)
 refine Qb (m:=Nn (.ref z) 3) (QN J rfl (x:=.ref TI) rfl ?_)
 refine Qb (Gf hTI rfl ?_)
 refine Qb (m:=QQ (.ref z)) ?_
 unfold QQ
 refine Qb (QN J rfl (x:=.none) rfl (Qh ?_))
 simp only [if_true]
 refine Qb (Jh ?_)
 refine Qb (QN J rfl (x:=.ref TO) rfl ?_)
 refine Qb (Gr J (by simp) fun ha G sa=>?_)
 replace G:TH ha z TI TO .ellipsis:=G
 refine Qb ?_
 simp only [SM,Rx,JS,RQ]
 have I:=sa.extBut
 refine Qb (Qb (PD ?_))
 refine Qb (m:=QJ (.ref Y)) (Ux (h1.extBut I D.i1z) (t1.extBut I D.l1z) hx fun hb i1b sb=>Qh ?_)
 have W:=sb.extBut
 have Z:Jl hb TO a b:=W _ _ D.TOi1 (I _ _ D.TOz hTO)
 refine Qb (Gf Z rfl ?_)
 refine Qb (PN Z fun hc TOc sc=>?_)
 have Ec:=sc.extBut
 refine Qb (Sf (Qh ?_))
 refine Qb (Qb (PD ?_))
 refine Qb (m:=QJ (.ref i2)) (Zbk hh (((h2.extBut I D.i2z).extBut W D.i12.symm).extBut Ec D.TOi2.symm) (((t2.extBut I D.l2z).extBut W D.l2i1).extBut Ec D.l2TO) hy fun hd e Ed he=>?_)
 obtain ⟨oe,B,ce⟩:=he
 have zb:TH hd z TI TO .ellipsis:=Ed _ _ D.i2z.symm (Ec _ _ D.TOz.symm (W _ _ D.i1z.symm G))
 have ez:e≠z:=fun x=>by subst x;rw [zb] at B;cases B;simp at ce
 refine Gr zb (by simp) fun hf _ sf=>?_
 refine Qb (NI (T:="StopIteration") (b:=true) ⟨oe,sf.extBut _ _ ez B,ce⟩ isSubtype_stop ?_)
 exact Qh (q _ fun c o c1 c2 c3 c4 x=>sf.extBut _ _ c1 (Ed _ _ c4 (Ec _ _ c2 (W _ _ c3 (I _ _ c1 x)))))
end
abbrev YD (l:Addr):Obj:={ cls:=.type "tuple_iterator",data:=.fields #[.ref l,.int 0 0] }
abbrev Zch (h:Heap)(l1 l2:Addr):Heap:=((((h.push (YD l1)).push (YD l2)).push { cls:=.type "tuple",data:=.seq #[.ref h.objs.size,.ref (h.push (YD l1)).objs.size] }).push { cls:=.type "tuple",data:=.seq #[.none,.none] })
theorem ZlI (l1 l2:Addr)(xs ys:Array Qc):Meets (Tg.«zip.__new__» ⟨[.type "zip",.ref l1,.ref l2],[]⟩) (fun _ R s=>s.heap.IsTuple l1 xs/\s.heap.IsTuple l2 ys /\
 R (.ok (.ret (.ref (Zch s.heap l1 l2).objs.size))) { s with heap:=(Zch s.heap l1 l2).push { cls:=.type "zip",data:=.fields #[.none,.bool false,.bool false,.ref ((s.heap.push (YD l1)).push (YD l2)).objs.size,.ref (((s.heap.push (YD l1)).push (YD l2)).push { cls:=.type "tuple",data:=.seq #[.ref s.heap.objs.size,.ref (s.heap.push (YD l1)).objs.size] }).objs.size] } }) :=
 .of_wp fun prog w A R s h=>by
  obtain ⟨hp,g,d,tk,os⟩:=s;obtain ⟨B,z,h⟩:=h
  have J:=sub_zip
  have G:Heap.IsTuple (NN ⟨hp,g,d,tk,os⟩) l1 xs:=B
  have I:Heap.IsTuple (NN ⟨hp.push (YD l1),g,d,tk,os⟩) l2 ys:=Heap.IsTuple.push z _
  wp_walk using JT G,JT I
  exact ⟨_,rfl,h⟩
section
variable {prog:Qk}{w:Qs}{A:QD}{E:Qc->Qe->Prop}{s:Qe}
theorem Zil (I:s.heap.IsTuple l1 xs)(B:s.heap.IsTuple l2 ys)(h:∀ h',TH h' (s.heap.objs.size+4) (s.heap.objs.size+2) (s.heap.objs.size+3) .none->Jl h' (s.heap.objs.size+2) (.ref s.heap.objs.size) (.ref (s.heap.objs.size+1)) ->
  Jl h' (s.heap.objs.size+3) .none .none->h'.IsTupleIter s.heap.objs.size l1 0->h'.IsTupleIter (s.heap.objs.size+1) l2 0->h'.objs.size=s.heap.objs.size+5 ->
  (∀ c o,s.heap.get? c=some o->h'.get? c=some o)->Q (.ref (s.heap.objs.size+4)) { s with heap:=h' }):Qq (Qw prog w) A (call (.type "zip") [.ref l1,.ref l2]) Q E s:=by
 refine callType_new F.called_zip (by decide) (F.typeCall_zip_2 _ _) (F.newCall_zip_2 _ _) (fun obj=>F.args_object_init_3 obj _ _) F.entry_zip_new (ZlI l1 l2 xs ys) ⟨I,B,?_⟩
 have J:(s.heap.push (YD l1)).objs.size=s.heap.objs.size+1:=Gj ..
 have z:((s.heap.push (YD l1)).push (YD l2)).objs.size=s.heap.objs.size+2:=by rw [Gj,J]
 have G:(((s.heap.push (YD l1)).push (YD l2)).push { cls:=.type "tuple",data:=.seq #[.ref s.heap.objs.size,.ref (s.heap.push (YD l1)).objs.size] }).objs.size=s.heap.objs.size+3:=by rw [Gj,z]
 have W:(Zch s.heap l1 l2).objs.size=s.heap.objs.size+4:=by rw [Gj,G]
 show _/\_
 rw [W,G,z]
 have up:∀ {h:Heap} {o:Obj} {c:Addr} {u:Obj},h.get? c=some u->(h.push o).get? c=some u:=fun e=>Qd _ e
 have Z:((Zch s.heap l1 l2).push { cls:=.type "zip",data:=.fields #[.none,.bool false,.bool false,.ref (s.heap.objs.size+2),.ref (s.heap.objs.size+3)] }).get? (Zch s.heap l1 l2).objs.size=some _:=Ql _ rfl
 have g4:(Zch s.heap l1 l2).get? _=some _:=Ql _ rfl
 have Y:(((s.heap.push (YD l1)).push (YD l2)).push { cls:=.type "tuple",data:=.seq #[.ref s.heap.objs.size,.ref (s.heap.push (YD l1)).objs.size] }).get? _=some _:=Ql _ rfl
 have g2:((s.heap.push (YD l1)).push (YD l2)).get? _=some _:=Ql _ rfl
 have g1:(s.heap.push (YD l1)).get? _=some _:=Ql _ rfl
 rw [W] at Z
 rw [G] at g4
 rw [z] at Y
 rw [J] at g2
 conv at Y=>rhs;rw [J]
 exact ⟨⟨_,Z,rfl⟩,h _ Z (up (up Y)) (up g4) ⟨_,up (up (up (up g1))),rfl,rfl⟩ ⟨_,up (up (up g2)),rfl,rfl⟩ (by rw [Gj,W]) fun c o x=>up (up (up (up (up x))))⟩
end
def ZbA (K:Qa)(l1 l2:Addr):It :=
 ⟨fun i H=>∃ xs ys x y,SqT K H l1 xs/\SqT K H l2 ys/\xs[i]?=some x/\ys[i]?=some y,
  fun i H v H'=>∃ t x y,H t=none/\(∀ xs,SqT K H l1 xs->xs[i]?=some x)/\(∀ ys,SqT K H l2 ys->ys[i]?=some y)/\v=.ref t/\H'=upd H t (.tup [x,y]),
  fun i H=>∃ xs ys,SqT K H l1 xs/\SqT K H l2 ys/\(xs.length<=i\/ys.length<=i)⟩
theorem Zib {P:Qk}{w:Qs}{K:Qa}{elts:List Expr}{x1:Nat}{tp:Pos}{z TI TO W i2 l1 l2:Addr}(D:Nk z TI TO W i2 l1 l2)(hTl1:l1≠TI)(hTl2:l2≠TI) :
 UR P w K (.Tuple elts x1 tp) (ZbA K l1 l2) [z,TI,TO,W,i2] z (fun i h=>TH h z TI TO .none/\Jl h TI (.ref W) (.ref i2)/\(∃ a b,Jl h TO a b)/\h.IsTupleIter W l1 i/\h.IsTupleIter i2 l2 i) where
 mem:=by simp
 obj:=fun i h st b J=>by
  obtain ⟨hz,B,⟨a,c,G⟩,⟨o1,ho1,c1,d1⟩,⟨o2,ho2,c2,d2⟩⟩:=st
  simp only [mem_cons,not_mem_nil,or_false] at J
  rcases J with q | q | q | q | q
  ·rw [q];exact ⟨_,hz,fun v z=>by cases z⟩
  ·rw [q];exact ⟨_,B,fun v z=>by cases z⟩
  ·rw [q];exact ⟨_,G,fun v z=>by cases z⟩
  ·rw [q];exact ⟨o1,ho1,fun v z=>by rw [d1] at z;cases z⟩
  ·rw [q];exact ⟨o2,ho2,fun v z=>by rw [d2] at z;cases z⟩
 keep:=fun i h h' st k=>by
  obtain ⟨hz,B,⟨a,c,G⟩,h1,h2⟩:=st
  exact ⟨k z (by simp) _ hz,k TI (by simp) _ B,⟨a,c,k TO (by simp) _ G⟩,h1.at fun o y=>k W (by simp) o y,h2.at fun o y=>k i2 (by simp) o y⟩
 item:=by
  intro X hP hw hK hc i pins s σ H E I hf st hg
  subst hP hw hK
  obtain ⟨hz,B,⟨a,b,G⟩,h1,h2⟩:=st
  obtain ⟨xs,ys,x,y,hq1,hq2,hx,hy⟩:=hg
  obtain ⟨Y,rv1,p1,hz1⟩:=I.tuple hq1
  obtain ⟨its2,rv2,p2,hz2⟩:=I.tuple hq2
  obtain ⟨u1,hu1,ru1⟩:=rv1.get hx
  obtain ⟨u2,hu2,ru2⟩:=rv2.get hy
  refine ZjW D hz B G h1 h2 p1 p2 (by simpa using hu1) (by simpa using hu2) fun h' g1 g2 g3 g4 g5 g6 g7=>?_
  refine ⟨_,rfl,TL g1 fun h2' g1' Z=>?_⟩
  have hzl:z < s.heap.objs.size:=Qi hz
  have hTIl:TI < s.heap.objs.size:=Qi B
  have hTOl:TO < s.heap.objs.size:=Qi G
  have hi1l:W < s.heap.objs.size:=by obtain ⟨o,ho,_⟩:=h1;exact Qi ho
  have hi2l:i2 < s.heap.objs.size:=by obtain ⟨o,ho,_⟩:=h2;exact Qi ho
  have g5':h'.get? s.heap.objs.size=some ({ cls:=.type "tuple",data:=.seq #[u1,u2] }:Obj):=g5
  generalize hO:({ cls:=.type "tuple",data:=.seq #[u1,u2] }:Obj)=O at g5'
  have I1:Inv X pins σ (upd H s.heap.objs.size (.tup [x,y])) { s with heap:=s.heap.push O,toks:=s.toks }:=by
   refine I.laid (t':=s.toks) (fun b o y=>Qd _ y) (Qf _) (show ObjOk X.prog X.w _ _ _ (.tup _) from ⟨by show 2<=Qg;decide,[u1,u2],.cons ru1 (.cons ru2 .nil),?_⟩)
   rw [<- hO];exact Pp _ _
  have hfree:=I.hok.fresh (Qf s.heap.objs.size)
  have hf2:∀ b∈[z,TI,TO,W,i2],Xz X pins (upd H s.heap.objs.size (.tup [x,y])) b:=fun b J=>by
   obtain ⟨f0,f1⟩:=hf b J
   have hb':b≠s.heap.objs.size:=by
    simp only [mem_cons,not_mem_nil,or_false] at J
    rcases J with q | q | q | q | q<;>(rw [q];exact Qt (by assumption))
   exact ⟨by rw [Zj hb'];exact f0,f1⟩
  have I2:Inv X pins σ (upd H s.heap.objs.size (.tup [x,y])) { s with heap:=h2',toks:=s.toks }:=by
   refine I1.turned2 (t':=s.toks) (h':=h2') (fun b o J y=>?_) hf2
   have n1:b≠z:=fun q=>J (by simp [q])
   have n2:b≠TO:=fun q=>J (by simp [q])
   have n3:b≠W:=fun q=>J (by simp [q])
   have n4:b≠i2:=fun q=>J (by simp [q])
   rw [Z.2 b n1]
   rcases JE y with ⟨q1,q2⟩ | y
   ·rw [q1,q2];exact g5'
   ·exact g7 b o n1 n2 n3 n4 y
  refine ⟨.ref s.heap.objs.size,_,I2,rfl,⟨s.heap.objs.size,x,y,hfree,fun ys hy'=>by rw [I.tuple_inj hy' hq1];exact hx,fun ys' hy'=>by rw [I.tuple_inj hy' hq2];exact hy,rfl,rfl⟩,⟨g1',?_,⟨u1,u2,?_⟩,?_,?_⟩,fun b J=>(hf2 b J).1⟩
  ·show h2'.get? TI=_
   rw [Z.2 TI D.TIz];exact g7 TI _ D.TIz D.TITO D.TIi1 D.TIi2 B
  ·show h2'.get? TO=_
   rw [Z.2 TO D.TOz];exact g2
  ·exact g3.at fun o y=>by rw [Z.2 W D.i1z];exact y
  ·exact g4.at fun o y=>by rw [Z.2 i2 D.i2z];exact y
 done:=by
  intro X hP hw hK hc i pins s σ H E I hf st hg
  subst hP hw hK
  obtain ⟨hz,B,⟨a,b,G⟩,h1,h2⟩:=st
  obtain ⟨xs,ys,hq1,hq2,hle⟩:=hg
  obtain ⟨Y,rv1,p1,hz1⟩:=I.tuple hq1
  obtain ⟨its2,rv2,p2,hz2⟩:=I.tuple hq2
  have l1:=rv1.length
  have l2:=rv2.length
  have fin:∀ h':Heap,(∀ c o,c≠z->c≠TO->c≠W->c≠i2->s.heap.get? c=some o->h'.get? c=some o)->Inv X pins σ H { s with heap:=h',toks:=s.toks }:=fun h' eb=>I.turned2 (t':=s.toks) (fp:=[z,TI,TO,W,i2]) (fun b o J y=>eb b o (fun q=>J (by simp [q])) (fun q=>J (by simp [q])) (fun q=>J (by simp [q])) (fun q=>J (by simp [q])) y) hf
  by_cases hlt:xs.length<=i
  ·exact ZlH (I.ok.hd hc) D hz B G h1 p1 (Jm (by simp;omega)) fun h' eb=>⟨rfl,fin h' eb⟩
  ·exact ZjV (I.ok.hd hc) D hz B G h1 h2 p1 p2 (x:=Y[i]'(by omega)) (by simp [show i < Y.length by omega]) (Jm (by simp;omega)) fun h' eb=>⟨rfl,fin h' eb⟩
 self:=fun _ _ _ _ _ st h=>Pu st.1 h
def Znw (K:Qa)(ta tb:TE):TI:=fun σ H R=>ta σ H fun v H1=>tb σ H1 fun u H2=>∃ a b xs ys,[v,u]=[V.ref a,V.ref b]/\SqT K H2 a xs/\SqT K H2 b ys/\R (ZbA K a b) H2
section
variable {X:Cx}
theorem Zlm {x1:Nat}(hg:Gl X "zip")(hm:X.mg "zip"=none)(hl:PE X l ta)(hr:PE X m tb)(he:QA [l,m] X.env=(false,eval l X.env)::QA [m] X.env:=by rfl)(Z:QA [m] X.env=[(false,eval m X.env)]:=by rfl)(hpl:(GZ pos (QA [m] X.env)).any (·.1)=false:=by rfl):PI X (.Tuple G x1 tp) (.Call (.Name "zip" p) [l,m] [] pos) (Znw X.K ta tb):=by
 intro pins s σ H R I h
 have ha:PA X [l,m] (Xh ta (Xh tb Wa)):=Yq hl (Yq hr Za Z) he
 refine Gb (Wp I hg hm Zdh ?_)
 refine Gh (Zw (ha pos pins s σ H (fun vs H2=>∃ a b xs ys,vs=[V.ref a,V.ref b]/\SqT X.K H2 a xs/\SqT X.K H2 b ys/\R (ZbA X.K a b) H2) I h) fun us s1 zz=>?_) he hpl
 obtain ⟨vs,H1,J,r1,a,b,xs,ys,e,ea,eb,q⟩:=zz
 subst e
 obtain ⟨Y,W,rfl,r2,r3⟩:∃ Y W,us=[Y,W]/\RelV (V.ref a) Y/\RelV (V.ref b) W:=by
  cases r1 with
  | cons p t=>cases t with
   | cons p2 t2=>cases t2;exact ⟨_,_,rfl,p,p2⟩
 cases r2
 cases r3
 obtain ⟨its1,rv1,⟨o1,B,c1,n1,d1⟩,_⟩:=J.tuple ea
 obtain ⟨its2,rv2,⟨o2,z,c2,n2,d2⟩,_⟩:=J.tuple eb
 have ha1:a < s1.heap.objs.size:=Qi B
 have hb1:b < s1.heap.objs.size:=Qi z
 refine Zil ⟨_,B,c1,n1,d1⟩ ⟨_,z,c2,n2,d2⟩ fun h' g1 g2 g3 g4 g5 g6 g7=>Pu g1 ?_
 refine ⟨s1.heap.objs.size+4,[s1.heap.objs.size+4,s1.heap.objs.size+2,s1.heap.objs.size+3,s1.heap.objs.size,s1.heap.objs.size+1],_,_,H1,rfl,J.kept (t':=s1.toks) g7,Zib (l1:=a) (l2:=b) ⟨?_,?_,?_,?_,?_,?_,?_,?_,?_,?_,?_,?_,?_,?_,?_,?_,?_,?_⟩ ?_ ?_,⟨g1,g2,⟨_,_,g3⟩,g4,g5⟩,fun c hc=>?_,q⟩
 rotate_right
 ·simp only [mem_cons,not_mem_nil,or_false] at hc
  have up:∀ k,Xz X pins H1 (s1.heap.objs.size+k):=fun k=>J.fpOk (Jc _ k) (J.hok.fresh (Jc _ k))
  rcases hc with q | q | q | q | q
  ·rw [q];exact up 4
  ·rw [q];exact up 2
  ·rw [q];exact up 3
  ·rw [q];exact up 0
  ·rw [q];exact up 1
 all_goals
  first
   | exact Qt (by first | (apply QB (by assumption);omega) | (simp only [Jd];decide) | (show _ < _+_;exact Je (by decide)))
   | exact GC (by first | (simp only [Jd];decide) | exact Je (by decide))
end
theorem ZgK {K:Qa}{a b:Addr}{xs ys:List V}{g:TG}{tb:TS}{D:YA}{σ:St}{H:Hp}(hlen:ys.length<=xs.length)(z:Nat->St->Hp->Prop)(h0:z 0 σ H)(hl:∀ i σ H,i<=ys.length->z i σ H->SqT K H a xs/\SqT K H b ys)
 (hs:∀ i x y t σ H,xs[i]?=some x->ys[i]?=some y->H t=none->z i σ H->g (.ref t) σ (upd H t (.tup [x,y])) fun B H2=>tb { D with nx:=z (i+1),ct:=z (i+1),bk:=D.nx } B H2) (hd:∀ σ H,z ys.length σ H->D.nx σ H) :
 ∃ W:Nat->Nat->St->Hp->Prop,(∃ m,W 0 m σ H)/\∀ i m σ H,W i m σ H ->
  ((ZbA K a b).stop i H/\D.nx σ H)\/((ZbA K a b).go i H/\∃ N:St->Hp->Prop,(∀ G H',N G H'->∃ Z,Z < m/\W (i+1) Z G H')/\∀ x H',(ZbA K a b).yld i H x H'->g x σ H' fun B H2=>tb { D with nx:=N,ct:=N,bk:=D.nx } B H2):=by
 refine ⟨fun i m σ H=>m=ys.length - i/\i<=ys.length/\z i σ H,⟨ys.length,by simp,Qx _,h0⟩,?_⟩
 rintro i m σ H ⟨rfl,hi,p⟩
 obtain ⟨J,Y⟩:=hl i σ H hi p
 by_cases I:i < ys.length
 ·refine .inr ⟨⟨xs,ys,xs[i]'(by omega),ys[i],J,Y,by simp [show i < xs.length by omega],by simp [I]⟩,z (i+1),fun G H' p'=>⟨ys.length - (i+1),by omega,rfl,I,p'⟩,fun x H' y=>?_⟩
  obtain ⟨t,x',y',e1,e2,e3,e4,e5⟩:=y
  subst e4 e5
  exact hs i x' y' t σ _ (e2 xs J) (e3 ys Y) e1 p
 ·have e:i=ys.length:=by omega
  subst e
  exact .inl ⟨⟨xs,ys,J,Y,.inr (Qf _)⟩,hd σ H p⟩
def TyS (K:Qa)(H:Hp)(x:V)(t:Qc):Prop:=Wn K H x t\/∃ a xs,x=.ref a/\t=.type "tuple"/\SqT K H a xs
section
variable {X:Cx}{pins:List (Addr×Obj)}{σ:St}{H:Hp}{s:Qe}
theorem ZlE (I:Inv X pins σ H s)(B:RelV x u)(ty:TyS X.K H x t):∃ G:Heap->Prop,PySem.W.KitX X.K u t G/\G s.heap/\u≠.builtin "__main__.__loader__#opaque":=by
 rcases ty with ty | ⟨a,xs,rfl,rfl,h⟩
 ·cases ty with
  | non=>cases (show u=GP from B);exact ⟨_,OT,QZ,fun z=>nomatch z⟩
  | bl y=>cases (show u=Jz y from B);exact ⟨_,OU,QZ,fun z=>nomatch z⟩
  | int i=>obtain ⟨t,q⟩:=(show ∃ t,u=Po i t from B);cases q;exact ⟨_,Nw,QZ,fun z=>nomatch z⟩
  | str y=>obtain ⟨t,q⟩:=(show ∃ t,u=JH y t from B);cases q;exact ⟨_,Nx,QZ,fun z=>nomatch z⟩
  | flt y=>obtain ⟨t,q⟩:=(show ∃ t,u=RG y t from B);cases q;exact ⟨_,Os,QZ,fun z=>nomatch z⟩
  | @lst a xs ea =>
   cases (show u=Qv a from B)
   obtain ⟨_,_,n,_,h1⟩:=(show ObjOk X.prog X.w H s.heap a (.lst xs) from I.hok a _ ea)
   exact ⟨_,JZ,⟨_,h1,rfl⟩,fun z=>nomatch z⟩
  | @frz a ob xs ea =>
   cases (show u=Qv a from B)
   obtain ⟨_,_,_,n,_,h1⟩:=(show ObjOk X.prog X.w H s.heap a (.frz ob (.lst xs)) from I.hok a _ ea)
   exact ⟨_,JZ,⟨_,h1,rfl⟩,fun z=>nomatch z⟩
  | @tup a xs ea =>
   cases (show u=Qv a from B)
   obtain ⟨_,_,_,p⟩:=(show ObjOk X.prog X.w H s.heap a (.tup xs) from I.hok a _ ea)
   obtain ⟨o,h1,h2,_⟩:=p
   exact ⟨_,To,⟨o,h1,h2⟩,fun z=>nomatch z⟩
  | @dK a kvs ea =>
   cases (show u=Qv a from B)
   obtain ⟨_,_,vs,_,p⟩:=(show ObjOk X.prog X.w H s.heap a (.dK kvs) from I.hok a _ ea)
   obtain ⟨o,es,ep,h1,h2,_⟩:=p
   exact ⟨_,Pa,⟨o,h1,h2.1⟩,fun z=>nomatch z⟩
  | @dT a kvs ea =>
   cases (show u=Qv a from B)
   obtain ⟨_,_,xs,_,o,es,ep,h1,h2,_⟩:=(show ObjOk X.prog X.w H s.heap a (.dT kvs) from I.hok a _ ea)
   exact ⟨_,Pa,⟨o,h1,h2.1⟩,fun z=>nomatch z⟩
  | @ins a C dx fs ea cl ha hn htk hm =>
   cases (show u=Qv a from B)
   obtain ⟨mA,O,_⟩:=UF I.hok ea
   obtain ⟨Z,J,_⟩:=O.look
   exact ⟨_,Ny (cl.get _) cl.hd ha hn htk hm,J,fun z=>nomatch z⟩
 ·cases (show u=Qv a from B)
  obtain ⟨Y,_,⟨o,h1,h2,_⟩,_⟩:=I.tuple h
  exact ⟨_,To,⟨o,h1,h2⟩,fun z=>nomatch z⟩
theorem Wc {K:Qa}(W:X.K=K):YH X (.builtin "isinstance") (fun xs H Q=>∃ x c t b,xs=[x,.ty c]/\TyS K H x t/\JC K t (.type c)=some b/\Q (.bl b) H):=by
 subst W
 intro pins s σ H xs us Q I r h
 obtain ⟨x,c,t,b,rfl,ty,e,q⟩:=h
 obtain ⟨u,B,rfl,G,z⟩:=VZ r
 cases (show B=SN c from z)
 obtain ⟨Y,Z,p,J⟩:=ZlE I G ty
 exact QX Z I.kIn p e J fun tk=>⟨.bl b,H,I.tok tk,rfl,q⟩
end
theorem PI.or (h1:PI X tg e t)(h2:PI X tg e u):PI X tg e (fun σ H R=>t σ H R\/u σ H R):=by
 intro pins s σ H R I h
 rcases h with h | h
 ·exact h1 pins s σ H R I h
 ·exact h2 pins s σ H R I h
end L2
namespace L2
open PySem
structure FG (K:Qa)(x:Str)(st:Stmt)(f:Addr)(fd:Qm):Prop where
 a:Qz K Qr x=some (some (.ref f))
 F:Fun K x x st f fd
structure FM (K:Qa)(C:Addr)(x q:Str)(st:Stmt)(f:Addr)(fd:Qm):Prop where
 m:Zam K C x f
 F:Fun K x q st f fd
structure FGC (K:Qa)(x:Str)(st:Stmt)(f:Addr)(fd:Qm)(c Pl:Addr):Prop where
 a:Qz K Qr x=some (some (.ref f))
 F:FunC K x x st f fd c Pl
structure CH (K:Qa)(x:Str)(C:Addr):Prop where
 a:Qz K Qr x=some (some (.ref C))
 c:Cls K C
 ms:Ro K C=true
 kp:Ja K (.ref C)=true
structure Bs (P:Qk)(w:Qs)(K:Qa)(mg:Str->Option Qc)(base h:Heap):Prop where
 X:K.In h
 G:h.Ns Qr mg
section
variable {P:Qk}{w:Qs}{K:Qa}{mg:Str->Option Qc}{base h:Heap}{x q:Str}{st:Stmt}{f c Pl C:Addr}{fd:Qm}{k:Nat}{ps:List Str}{sp:Sp}{p1 p2 p3 p4 p5:Str}
theorem FG.df (g:FG K x st f fd)(e:Bs P w K mg base h)(o:FnOk P w K mg base ZI k f fd ps sp)(b:Binds K fd ps []):Def P w K mg base k x ps sp:=⟨f,fd,o,b,g.F.kp,Om e.X e.G g.a⟩
theorem FGC.df (g:FGC K x st f fd c Pl)(e:Bs P w K mg base h)(o:FnOk P w K mg base ZI k f fd ps sp)(b:Binds K fd ps []):Def P w K mg base k x ps sp:=⟨f,fd,o,b,g.F.kp,Om e.X e.G g.a⟩
theorem FM.df (g:FM K C x q st f fd)(_:Bs P w K mg base h)(o:FnOk P w K mg base ZI k f fd ps sp)(b:Binds K fd ps []):DefM P w K mg base k C x ps sp:=⟨f,fd,o,b,g.m⟩
theorem FM.di (g:FM K C "__init__" q st f fd)(ch:CH K y C)(e:Bs P w K mg base h)(o:FnOk P w K mg base ZI k f fd ps sp)(b:Binds K fd ps []):Zfp P w K mg base k C y ps sp:=⟨f,fd,o,b,⟨ch.ms,g.m.at_,g.m.fn,ch.kp⟩,Om e.X e.G ch.a⟩
abbrev BA (x q:Str)(st:Stmt)(us:List Qc)(r:List (Str×Qc)):Prop:=∀(kV doc pm:Qc)(an:Option Addr)(cdv ct:Qc),bindArgs (Pc x q (VN st) (Wd st) (Zi st) .none kV doc pm an cdv ct) ⟨us,[]⟩=pure r
theorem Xu {z:Type}{us:List z}{n:Nat}(h:us.length=n+1):∃ u r,us=u::r/\r.length=n:=by
 cases us with
 | nil=>cases h
 | cons u r=>exact ⟨u,r,rfl,Nat.succ.inj h⟩
theorem Fun.b1 (F:Fun K x q st f fd)(h:∀ u,BA x q st [u] [(p1,u)]):Binds K fd [p1] []:=F.binds fun a b c d e g us B=>by
 obtain ⟨u,us,rfl,C⟩:=Xu B
 cases eq_nil_of_length_eq_zero C;exact h u a b c d e g
theorem Fun.b2 (F:Fun K x q st f fd)(h:∀ u v,BA x q st [u,v] [(p1,u),(p2,v)]):Binds K fd [p1,p2] []:=F.binds fun a b c d e g us B=>by
 obtain ⟨u,us,rfl,C⟩:=Xu B
 obtain ⟨v,us,rfl,D⟩:=Xu C
 cases eq_nil_of_length_eq_zero D;exact h u v a b c d e g
theorem Fun.b3 (F:Fun K x q st f fd)(h:∀ u v y,BA x q st [u,v,y] [(p1,u),(p2,v),(p3,y)]):Binds K fd [p1,p2,p3] []:=F.binds fun a b c d e g us B=>by
 obtain ⟨u,us,rfl,C⟩:=Xu B
 obtain ⟨v,us,rfl,D⟩:=Xu C
 obtain ⟨y,us,rfl,E⟩:=Xu D
 cases eq_nil_of_length_eq_zero E;exact h u v y a b c d e g
theorem Fun.b4 (F:Fun K x q st f fd)(h:∀ u v y z,BA x q st [u,v,y,z] [(p1,u),(p2,v),(p3,y),(p4,z)]):Binds K fd [p1,p2,p3,p4] []:=F.binds fun a b c d e g us B=>by
 obtain ⟨u,us,rfl,C⟩:=Xu B
 obtain ⟨v,us,rfl,D⟩:=Xu C
 obtain ⟨y,us,rfl,E⟩:=Xu D
 obtain ⟨z,us,rfl,W⟩:=Xu E
 cases eq_nil_of_length_eq_zero W;exact h u v y z a b c d e g
theorem Fun.b5 (F:Fun K x q st f fd)(h:∀ u v y z G,BA x q st [u,v,y,z,G] [(p1,u),(p2,v),(p3,y),(p4,z),(p5,G)]):Binds K fd [p1,p2,p3,p4,p5] []:=F.binds fun a b c d e g us B=>by
 obtain ⟨u,us,rfl,C⟩:=Xu B
 obtain ⟨v,us,rfl,D⟩:=Xu C
 obtain ⟨y,us,rfl,E⟩:=Xu D
 obtain ⟨z,us,rfl,W⟩:=Xu E
 obtain ⟨G,us,rfl,Z⟩:=Xu W
 cases eq_nil_of_length_eq_zero Z;exact h u v y z G a b c d e g
theorem ZgZ (F:Fun K x q st f fd)(h:∀ u,BA x q st [u] [(p1,u)])(s:Qe)(v:Qc):RU s fd ⟨[v],[]⟩ [(p1,v)]:=by
 obtain ⟨Z,od,kV,B,I,G,z,Y,J,rfl,lk,W⟩:=F.ex
 exact .of_eq (h v kV B I G z Y)
end
end L2
namespace L2
open PySem PySem.Spec PyProof.Rows
section
variable {X:Cx}
end
section
variable {X:Cx}
end
section
variable {K:Qa}{x q:Str}{st:Stmt}{f:Addr}{fd:Qm}{p1 p2 p3 p4 p5 p6 p7:Str}
end
section
variable {X:Cx}
end
mutual
inductive DatA (K:Qa)(H:Hp):V->QM->Prop
 | non:DatA K H .non .none
 | bl (b):DatA K H (.bl b) (.bool b)
 | int (i):DatA K H (.int i) (.int i)
 | str (x):DatA K H (.str x) (.str x)
 | lst {a xs ds}:H a=some (.lst xs)->xs.length<=20000->DatAs K H xs ds->DatA K H (.ref a) (.list ds)
 | tup {a xs ds}:SqT K H a xs->xs.length<=20000->DatAs K H xs ds->DatA K H (.ref a) (.tuple ds)
inductive DatAs (K:Qa)(H:Hp):List V->List QM->Prop
 | nil:DatAs K H [] []
 | cons {v d vs ds}:DatA K H v d->DatAs K H vs ds->DatAs K H (v::vs) (d::ds)
end
mutual
theorem DatA.same {K:Qa}{H H':Hp}(s:Same H H'):∀{v d},DatA K H v d->DatA K H' v d
 | _,_,.non=>.non
 | _,_,.bl b=>.bl b
 | _,_,.int i=>.int i
 | _,_,.str x=>.str x
 | _,_,.lst e h q=>.lst (s _ _ e) h (DatAs.same s q)
 | _,_,.tup e h q=>.tup (e.tf s.tf) h (DatAs.same s q)
theorem DatAs.same {K:Qa}{H H':Hp}(s:Same H H'):∀{vs ds},DatAs K H vs ds->DatAs K H' vs ds
 | _,_,.nil=>.nil
 | _,_,.cons r t=>.cons (DatA.same s r) (DatAs.same s t)
end
theorem DatAs.len {K:Qa}{H:Hp}:∀{vs ds},DatAs K H vs ds->vs.length=ds.length
 | _,_,.nil=>rfl
 | _,_,.cons q t=>by rw [length_cons,length_cons,DatAs.len t]
theorem DatAs.at {K:Qa}{H:Hp}:∀{vs ds}{i:Nat}{v:V},DatAs K H vs ds->vs[i]?=some v->∃ d,ds[i]?=some d/\DatA K H v d
 | _,_,_,_,.nil,h=>by simp at h
 | _,_,0,_,.cons a _,h=>by cases h;exact ⟨_,rfl,a⟩
 | _,_,i+1,_,.cons _ b,h=>DatAs.at (i:=i) b h
theorem DatAs.append {K:Qa}{H:Hp}:∀{vs ds z es},DatAs K H vs ds->DatAs K H z es->DatAs K H (vs++z) (ds++es)
 | _,_,_,_,.nil,h=>h
 | _,_,_,_,.cons a b,h=>.cons a (DatAs.append b h)
section
variable {X:Cx}{pins:List (Addr×Obj)}{σ:St}{H:Hp}{s:Qe}
mutual
theorem DatA.reads (I:Inv X pins σ H s):∀{v d}(u:Qc),DatA X.K H v d->RelV v u->d.hasDict=false/\∃ as,Reads s.heap u d as
 | _,_,u,.non,r=>by cases (show u=.none from r);exact ⟨rfl,_,.none⟩
 | _,_,u,.bl b,r=>by cases (show u=.bool b from r);exact ⟨rfl,_,.bool b⟩
 | _,_,u,.int i,r=>by obtain ⟨t,e⟩:=(show ∃ t,u=.int i t from r);subst e;exact ⟨rfl,_,.int i t⟩
 | _,_,u,.str x,r=>by obtain ⟨t,e⟩:=(show ∃ t,u=.str x t from r);subst e;exact ⟨rfl,_,.str x t⟩
 | _,_,u,.lst (a:=a) (xs:=xs) e _ q,r=>by
  cases (show u=.ref a from r)
  obtain ⟨_,z,n,G,g⟩:=(show ObjOk X.prog X.w H s.heap a (.lst xs) from I.hok a _ e)
  obtain ⟨J,as,B⟩:=DatAs.reads I z q G
  exact ⟨by simpa [Pf] using J,_,.list g rfl rfl (by simpa using B)⟩
 | _,_,u,.tup (a:=a) (xs:=xs) e _ q,r=>by
  cases (show u=.ref a from r)
  obtain ⟨z,G,⟨o,g,c,n,d⟩,_⟩:=I.tuple e
  obtain ⟨J,as,B⟩:=DatAs.reads I z q G
  exact ⟨by simpa [Pf] using J,_,.tuple g c d (by simpa using B)⟩
theorem DatAs.reads (I:Inv X pins σ H s):∀{vs ds}(us:List Qc),DatAs X.K H vs ds->Vals vs us->GN ds=false/\∃ as,ReadsAll s.heap us ds as
 | _,_,_,.nil,.nil=>⟨rfl,_,.nil⟩
 | _,_,_,.cons r t,.cons rv tv=>by
  obtain ⟨B,as,G⟩:=DatA.reads I _ r rv
  obtain ⟨z,bs,J⟩:=DatAs.reads I _ t tv
  exact ⟨by simp [GN,B,z],_,.cons G J⟩
end
end
section
variable {X:Cx}
inductive Zht (K:Qa)(x y:V)(H:Hp)(Q:VK):Prop
 | mk (dx dy:_):DatA K H x dx->DatA K H y dy->dx.canLay0=true->dy.canLay0=true->dx.depth<=60->Q (.bl (JV dx dy)) H->Zht K x y H Q
def rEqA (K:Qa):R2:=fun x y H Q=>Zht K x y H Q
theorem ZmF {K:Qa}(hK:X.K=K)(hu:X.A.units+64 < OV):YW X (Ge .Eq) (rEqA K):=by
 subst hK
 intro pins s σ H x y v u Q I z ry h
 obtain ⟨dx,dy,Z,J,W,B,hd,q⟩:=h
 obtain ⟨_,as,Y⟩:=DatA.reads I v Z z
 obtain ⟨_,bs,G⟩:=DatA.reads I u J ry
 exact RD Y G W B (by omega) ⟨.bl _,H,I,rfl,q⟩
inductive Zhz (K:Qa)(x:V)(lo hi:Option Int)(H:Hp)(Q:VK):Prop
 | mk (a xs:_):x=.ref a->SqT K H a xs->(((HT.sIx xs.length 0 lo=0/\HT.sIx xs.length xs.length hi=xs.length/\Q (.ref a) H)\/(¬ (HT.sIx xs.length 0 lo=0/\HT.sIx xs.length xs.length hi=xs.length)/\∀ p,H p=none->Q (.ref p) (upd H p (.tup (XA xs lo hi))))))->Zhz K x lo hi H Q
def rSlA (K:Qa):V->Option Int->Option Int->Hp->VK->Prop:=fun x lo hi H Q=>Zhz K x lo hi H Q
theorem Zfa {K:Qa}(hK:X.K=K):SlR X (rSlA K):=by
 subst hK
 intro pins s σ H x v vl vu lo hi sl Q I rx G pl pu h
 obtain ⟨a,xs,rfl,hx,h⟩:=h
 rcases h with ⟨w1,w2,q⟩ | ⟨hw,q⟩
 ·cases rx
  obtain ⟨J,r,z,hz⟩:=I.tuple hx
  have B:J.toArray.size=xs.length:=by rw [size_toArray];exact r.length.symm
  refine ⟨"tuple",_,QK.lookup,z.typeIs,?_⟩
  obtain ⟨os,Y,W,hds⟩:=id G
  have Z:s.TypeIs (.ref sl) "slice":=⟨os,Y,W⟩
  obtain ⟨⟨cls,dd,data,sl'⟩,ho,hc,n,hd⟩:=id z
  simp only at hc hd
  subst hc hd
  unfold OZ
  try with_reducible refine QS ?_
  first | refine Qb (Qh ?_) | skip
  refine Qb (Sb z.typeIs (by decide) ?_)
  refine Qb (QV (name:=Qn "__getitem__") z.typeIs QK
   (Go QK z.typeIs Oa ?_ (Ov _ _)))
  show Qq _ _ (Ts (.ref a) >>= _) _ _ s
  refine Qb (tupleItemsOf_ z ?_)
  refine Qb (JM Z ?_)
  rw [if_pos (by decide)]
  refine Qb (HT.sliceApplied_gen G pl pu ?_)
  rw [B,w1,w2]
  dsimp only
  rw [if_pos (by simp)]
  unfold Builtin.Tuple.tupleIsExact
  refine Qb (Qb (JM z.typeIs (Qh ?_)))
  rw [if_pos (by decide)]
  exact Qb (Jh (Qh ⟨_,rfl,Qh ⟨.ref a,H,I,rfl,q⟩⟩))
 ·exact ZmW pins s σ H _ v vl vu lo hi sl Q I rx G pl pu ⟨a,xs,rfl,hx,hw,q⟩
end
section
variable {X:Cx}
end
end L2
namespace K26
open PySem L2
theorem Zda (h:DatA K H z d):∃ t,TyS K H z t/\JC K t (.type "tuple")=some (match d with | .tuple _=>true | _=>false)/\JC K t (.type "bool")=some (match d with | .bool _=>true | _=>false)/\JC K t (.type "int")=some (match d with | .int _=>true | .bool _=>true | _=>false):=by
 cases h with
 | non=>exact ⟨_,.inl .non,rfl,rfl,rfl⟩
 | bl b=>exact ⟨_,.inl (.bl b),rfl,rfl,rfl⟩
 | int i=>exact ⟨_,.inl (.int i),rfl,rfl,rfl⟩
 | str x=>exact ⟨_,.inl (.str x),rfl,rfl,rfl⟩
 | lst e _ _=>exact ⟨_,.inl (.lst e),rfl,rfl,rfl⟩
 | tup e _ _=>exact ⟨_,.inr ⟨_,_,rfl,rfl,e⟩,rfl,rfl,rfl⟩
def Vf:QM->Bool
 | .int _=>true
 | _=>false
theorem ZeR :∀{vs:List V}{ds:List QM},DatAs K H vs ds->ds.all Vf=true->∃ B:List Int,vs=B.map V.int/\ds=B.map QF
 | _,_,.nil,_=>⟨[],rfl,rfl⟩
 | _,_,.cons (d:=d) a b,h=>by
  rw [all_cons,QI] at h
  obtain ⟨B,rfl,rfl⟩:=ZeR b h.2
  cases a with
  | int i=>exact ⟨i::B,rfl,rfl⟩
  | non=>exact absurd h.1 (by decide)
  | bl b=>exact absurd h.1 (fun z=>by cases z)
  | str x=>exact absurd h.1 (fun z=>by cases z)
  | lst _ _ _=>exact absurd h.1 (fun z=>by cases z)
  | tup _ _ _=>exact absurd h.1 (fun z=>by cases z)
theorem Zde:∀ z:List Int,(z.map QF).all Vf=true
 | []=>rfl
 | i::z=>by rw [map_cons,all_cons,Zde z];rfl
theorem ZaV :∀ z:List Int,DatasOf H (z.map V.int) (z.map QF)
 | []=>.nil
 | n::r=>.cons (.int _) (ZaV r)
theorem Zdz:∀ z:List Int,No (z.map QF)=true
 | []=>rfl
 | n::r=>by rw [map_cons,No,Zdz r];rfl
theorem Zdq:∀ z:List Int,Gy (z.map QF)=0
 | []=>rfl
 | n::r=>by rw [map_cons,Gy,Zdq r];rfl
theorem Zcp {H:Hp}{l:Addr}{z:List Int}(e:H l=some (.lst (z.map V.int))):DataOf H (.ref l) (.list (z.map QF))/\(PyData.list (z.map QF)).canLay0=true/\(PyData.list (z.map QF)).depth<=60:=by
 refine ⟨.lst e (ZaV z),?_,?_⟩
 ·rw [PyData.canLay0];exact Zdz z
 ·rw [Np,Zdq];decide
theorem Zdu:∀ z B:List Int,Ju (z.map QF) (B.map QF)=decide (z=B)
 | [],[]=>by simp [Ju]
 | [],_::_=>by simp [Ju]
 | _::_,[]=>by simp [Ju]
 | a::r,b::t=>by
  have G:=Zdu r t
  rw [map_cons,map_cons,Ju,G,JV]
  by_cases e:a=b
  ·subst e;simp
  ·simp [e]
theorem Zaw:∀{z B:List Int},z.map QF=B.map QF->z=B
 | [],[],_=>rfl
 | [],_::_,h=>by cases h
 | _::_,[],h=>by cases h
 | a::r,b::t,h=>by
  rw [map_cons,map_cons] at h
  injection h with h1 h2
  injection h1 with h1
  rw [h1,Zaw h2]
def tpN (ms:List Nat):PyData:=.tuple ((ms.map fun n:Nat=>(n:Int)).map QF)
section
variable {P:Qk}{w:Qs}{K:Qa}{mg:Str->Option Qc}{base:Heap}{CR CS Pl:Addr}
inductive VW (K:Qa)(vs:List V)(H:Hp)(Q:VK)(w_3:XK):Prop
 | mk (v:V) (d:QM):vs=[v]->DatA K H v d->Q (.bl (Vf d)) H->VW K vs H Q w_3
abbrev nIN:List Str:=["thing"]
abbrev Zjj:List Str:=["thing"]
theorem scIN:Zo nIN Zjj (Zi s_is_number):={}
theorem ZmA (F:Fun K "is_number" "is_number" s_is_number f fd)(T:Yj mg):FnOk P w K mg base ZI 1 f fd Zjj (VW K):=by
 refine F.ok scIN (fun G A outer s H vs Q E J h=>?_)
 obtain ⟨v,d,rfl,z,q⟩:=h
 refine' ⟨?t,?h,?r⟩
 case h =>
  conv=>arg 2;whnf
  with_reducible refine' (Zg ?h1)
  case h1=>exact Zl (Xl (Zu (Wc (K:=K) rfl) rfl T.isinstance (by decide +kernel) (Zb (pv 0) (Zb (YZ rfl T.int (by decide +kernel) (v:=.ty "int") rfl) Za))) (XW (ZdO (Zu (Wc (K:=K) rfl) rfl T.isinstance (by decide +kernel) (Zb (pv 0) (Zb (YZ rfl T.bool (by decide +kernel) (v:=.ty "bool") rfl) Za))))))
 try dsimp only [Yz,Cx.nox]
 obtain ⟨t,ty,_,B,I⟩:=Zda z
 refine ⟨_,rfl,_,_,t,_,rfl,ty,I,_,rfl,?_⟩
 cases z with
 | int i=>exact ZF ⟨_,rfl,_,_,t,_,rfl,ty,B,_,rfl,q⟩
 | bl b=>exact ZF ⟨_,rfl,_,_,t,_,rfl,ty,B,_,rfl,q⟩
 | str x=>exact Zz q
 | non=>exact Zz q
 | lst _ _ _=>exact Zz q
 | tup _ _ _=>exact Zz q
abbrev nIW:List Str:=["_law_thing"]
abbrev ZfP:List Str:=["_law_thing"]
theorem scIW:Zo nIW ZfP (Zi s_l_is_whole):={}
theorem ZiR (F:Fun K "_law_is_whole" "_law_is_whole" s_l_is_whole f fd)(T:Yj mg):FnOk P w K mg base ZI 1 f fd ZfP (VW K):=by
 refine F.ok scIW (fun G A outer s H vs Q E J h=>?_)
 obtain ⟨v,d,rfl,z,q⟩:=h
 refine' ⟨?t,?h,?r⟩
 case h =>
  conv=>arg 2;whnf
  with_reducible refine' (Zg ?h1)
  case h1=>exact Zl (Xl (Zu (Wc (K:=K) rfl) rfl T.isinstance (by decide +kernel) (Zb (pv 0) (Zb (YZ rfl T.int (by decide +kernel) (v:=.ty "int") rfl) Za))) (XW (ZdO (Zu (Wc (K:=K) rfl) rfl T.isinstance (by decide +kernel) (Zb (pv 0) (Zb (YZ rfl T.bool (by decide +kernel) (v:=.ty "bool") rfl) Za))))))
 try dsimp only [Yz,Cx.nox]
 obtain ⟨t,ty,_,B,I⟩:=Zda z
 refine ⟨_,rfl,_,_,t,_,rfl,ty,I,_,rfl,?_⟩
 cases z with
 | int i=>exact ZF ⟨_,rfl,_,_,t,_,rfl,ty,B,_,rfl,q⟩
 | bl b=>exact ZF ⟨_,rfl,_,_,t,_,rfl,ty,B,_,rfl,q⟩
 | str x=>exact Zz q
 | non=>exact Zz q
 | lst _ _ _=>exact Zz q
 | tup _ _ _=>exact Zz q
inductive Zgi (K:Qa)(vs:List V)(H:Hp)(Q:VK)(w_3:XK):Prop
 | mk (a:Addr) (v:V) (ms:List Nat) (d:QM):vs=[.ref a,v]->H a=some (.tup (ms.map nV))->DatA K H v d->ms.length<=20000->(∀ b H',(b=true↔d=tpN ms)->Same H H'->Q (.bl b) H')->Zgi K vs H Q w_3
abbrev nIT:List Str:=["numbers","thing"]
abbrev Zjk:List Str:=["numbers","thing"]
theorem scIT:Zo nIT Zjk (Zi s_is_tuple_of):={}
theorem Zmy (F:Fun K "is_tuple_of" "is_tuple_of" s_is_tuple_of f fd)(T:Yj mg)(B:Def P w K mg base 1 "is_number" Zjj (VW K)):FnOk P w K mg base ZI 2 f fd Zjk (Zgi K):=by
 refine F.ok scIT (fun cdv A outer s H vs Q E hr h=>?_)
 obtain ⟨a,v,J,d,rfl,ea,hd,hm,q⟩:=h
 refine' ⟨?t,?h,?r⟩
 case h =>
  conv=>arg 2;whnf
  with_reducible refine' (Zf (ZZ ?h1 (Zg ?h2) ZS) (Zg ?h3))
  case h1=>exact PW.pt (Wt (Ws (Xm (Zu (Wc (K:=K) rfl) rfl T.isinstance (by decide +kernel) (Zb (pv 1) (Zb (YZ rfl T.tuple (by decide +kernel) (v:=.ty "tuple") rfl) Za))))) (Wu (Ws (Xm (Zu (UT rfl) rfl T.all (by decide +kernel) (Zb (We (CompOk.of nIT s_is_tuple_of rfl rfl (by decide +kernel)) rfl (Zbo (pv 1))  (fun _ _ _ _ _=>Zy B hr (Zb (pv 2) Za))) Za))))))
  case h2=>exact Zl XY
  case h3=>exact Zl (Yx (ZmG hr.units) (ZQ Xj rfl T.list (by decide +kernel) (Zb (pv 1) Za)) (ZQ Xj rfl T.list (by decide +kernel) (Zb (pv 0) Za)) (ZA _))
 try dsimp only [Yz,Cx.nox]
 refine zs2 ?_
 intro zD zS zN1
 obtain ⟨t,ty,i1,_,_⟩:=Zda hd
 refine ⟨_,rfl,_,_,t,_,rfl,ty,i1,_,rfl,?_⟩
 cases hd with
 | int i=>exact ZF (q false H ⟨(fun z=>by cases z),(fun z=>by cases z)⟩ (Same.refl H))
 | bl b=>exact ZF (q false H ⟨(fun z=>by cases z),(fun z=>by cases z)⟩ (Same.refl H))
 | str x=>exact ZF (q false H ⟨(fun z=>by cases z),(fun z=>by cases z)⟩ (Same.refl H))
 | non=>exact ZF (q false H ⟨(fun z=>by cases z),(fun z=>by cases z)⟩ (Same.refl H))
 | lst _ _ _=>exact ZF (q false H ⟨(fun z=>by cases z),(fun z=>by cases z)⟩ (Same.refl H))
 | @tup p xs es e hl dq =>
  have hle:=dq.len
  refine Zz ⟨_,rfl,p,rfl,⟨_,e⟩,fun D hD=>?_⟩
  refine Zar (K:=K) (xs:=xs) (Yw (show _<=20000 from hl)) (fun i ys H'=>i<=es.length/\Same H H'/\H' D=some (.lst ys)/\ys=((es.take i).map Vf).map V.bl) ⟨Qx _,Zv hD _,Zh,rfl⟩ ?_ ?_ ?_
  ·rintro i ys H' ⟨hi,I,_,rfl⟩;exact ⟨by rw [length_map,length_map,length_take];omega,e.tf I.tf⟩
  ·rintro i v ys H' hv ⟨hi,I,G,rfl⟩
   obtain ⟨d1,W,dv⟩:=dq.at hv
   refine ⟨_,rfl,v,d1,rfl,dv.same I,G,by have:=(Qj.mp W).1;omega,fun b o q=>?_,Zh,?_⟩
   ·rw [Zj (Zx q hD)];exact I _ _ q
   ·rw [take_add_one,W,map_append,map_append];rfl
  ·rintro ys Z ⟨_,I,G,rfl⟩
   rw [take_of_length_le (by omega)] at G
   refine ⟨D,_,rfl,SqL.of G,_,rfl,?_⟩
   rw [show ((es.map Vf).all id)=es.all Vf from by rw [List.all_map];rfl]
   cases ha:es.all Vf with
   | false=>exact ZF (q false Z ⟨(fun z=>by cases z),fun z=>absurd ha (by injection z with z;rw [z,Zde];decide)⟩ I)
   | true =>
    obtain ⟨is,rfl,rfl⟩:=ZeR dq ha
    refine Zz ⟨_,rfl,p,_,rfl,.inr (e.tf I.tf),fun l1 Y=>?_⟩
    have s7:=Zv Y (.lst (is.map V.int))
    refine ⟨_,rfl,a,_,rfl,.inr (SqT.of (s7 _ _ (I _ _ ea))),fun l2 hl2=>?_⟩
    have s8:=Zv hl2 (.lst (J.map nV))
    have em:J.map nV=(J.map fun n:Nat=>(n:Int)).map V.int:=by rw [map_map];rfl
    obtain ⟨z1,z2,z3⟩:=Zcp (s8 _ _ (Zh (H:=Z) (a:=l1) (o:=.lst (is.map V.int))))
    obtain ⟨y1,y2,y3⟩:=Zcp (show (upd (upd Z l1 (.lst (is.map V.int))) l2 (.lst (J.map nV))) l2=some (.lst ((J.map fun n:Nat=>(n:Int)).map V.int)) by rw [Zh,em])
    refine ⟨_,_,z1,y1,z2,y2,z3,?_⟩
    rw [JV,Zdu]
    refine q _ _ ⟨fun z=>?_,fun z=>?_⟩ ((I.trans s7).trans s8)
    ·rw [of_decide_eq_true z];rfl
    ·injection z with z
     exact decide_eq_true (Zaw z)
inductive ZjL (K:Qa)(CR CS:Addr)(vs:List V)(H:Hp)(Q:VK)(w_3:XK):Prop
 | mk (NS:List Str) (r:Addr) (v:V) (pls:List ZE) (nds:List Nd) (tabs:List (Zn×V)) (k:Nat) (x:Str) (told:V) (d:QM):vs=[.ref r,.int (k:Int),.str x,told,v]->RdR K CR CS r pls nds tabs H->WfP pls->(∀ q∈pls,q.st.ok NS)->k<=pls.length->pls.length<=10000->NvP told->DatA K H v d->(∀ b H',(b=true↔d=tpN (paper pls x k)/\Ys pls x k=told)->Same H H'->Q (.bl b) H')->ZjL K CR CS vs H Q w_3
abbrev nSL:List Str:=["roads","place","name","told","paper","due"]
abbrev Zjr:List Str:=["roads","place","name","told","paper"]
theorem scSL:Zo nSL Zjr (Zi s_shows_look):={}
theorem ZnD (F:Fun K "shows_look" "shows_look" s_shows_look f fd)(T:Yj mg)(TR:XO K CR)(G:Def P w K mg base 5 "look_paper" ZfR (Zgk K CR CS))(B:Def P w K mg base 5 "is_tuple_of" Zjk (Zgi K))(J:Def P w K mg base 5 "alike" ["one","other"] VT)(I:DefM P w K mg base 5 CR "walked" ZfY (ZaG K CR CS)):FnOk P w K mg base ZI 6 f fd Zjr (ZjL K CR CS):=by
 refine F.ok scSL (fun cdv A outer s H vs Q E Y h=>?_)
 obtain ⟨NS,r,v,pls,nds,W,k,x,told,d,rfl,R,hw,ok,Z,hpl,hv,et,q⟩:=h
 refine' ⟨?t,?h,?r⟩
 case h =>
  conv=>arg 2;whnf
  with_reducible refine' (Zf ?h1 (Zg ?h2))
  case h1=>exact Zs (i:=5) scSL.nd rfl (Qy rfl) (Zy G Y (Zb (pv 0) (Zb (pv 1) (Zb (pv 2) Za))))
  case h2=>exact Zl (Xl (Zy B Y (Zb (pv 5) (Zb (pv 4) Za))) (XW (Zy J Y (Zb (Yo I TR.cl Y (pv 0) (Zb (pv 1) (Zb (pv 2) Za))) (Zb (pv 3) Za)))))
 try dsimp only [Yz,Cx.nox]
 refine zs2 ?_
 intro zD zS zN1
 refine ⟨_,rfl,_,rfl,_,rfl,r,pls,nds,W,k,x,rfl,R,hw,Z,hpl,fun a H1 s1 ea=>?_⟩
 refine ⟨_,rfl,_,rfl,a,v,paper pls x k,d,rfl,ea,et.same s1,(by have:=Zcv pls x k;omega),fun b H2 hb s2=>⟨_,rfl,?_⟩⟩
 have S2:=s1.trans s2
 cases b with
 | true =>
  have e:=hb.mp rfl
  have R2:RdR K CR CS r pls nds W H2:=Up.up R S2
  obtain ⟨st2,la2,ls2,lt2,lc2,T2⟩:=id R2
  obtain ⟨dx2,ob2⟩:=T2.get r
  refine ZF ⟨_,rfl,r,dx2,_,rfl,ob2,Xg (by decide +kernel),_,rfl,_,rfl,r,pls,nds,W,k,x,rfl,R2,hw,Z,?_⟩
  exact ⟨_,rfl,_,_,rfl,Zlv (Zfn hw Z ok) hv,q _ H2 ⟨fun z=>⟨e,of_decide_eq_true z⟩,fun z=>decide_eq_true z.2⟩ S2⟩
 | false =>
  exact Zz (q false H2 ⟨(fun z=>by cases z),(fun z=>by cases hb.mpr z.1)⟩ S2)
end
theorem Zef (h:x.cps.toList.all P=true)(z:∀ c,P c=true->c < 1114112):Jo x=true:=by
 show x.cps.all (fun c=>decide (c < 1114112))=true
 rw [<- Array.all_toList,all_eq_true]
 exact fun c B=>decide_eq_true (z c (all_eq_true.mp h c B))
def WJ (pls:List ZE)(x:Str):List Nat->Bool
 | []=>false
 | [a]=>decide (a=0) || Yk pls x a
 | a::b::r=>(decide (a≠0)&&!Yk pls x a&&decide (ahV pls a=nV b))&&WJ pls x (b::r)
theorem Vi (pls:List ZE)(x:Str)(k:Nat):∃ r,paper pls x k=k::r:=by
 have h:∀ {p:Nat->Bool} {a:Nat} {r:List Nat},∃ s,Wb p (a::r)=a::s:=fun {p a r}=>by
  unfold Wb;split
  ·exact ⟨_,rfl⟩
  ·exact ⟨_,rfl⟩
 cases k with
 | zero=>exact h
 | succ k=>exact h
theorem ZeA (B:WfP pls)(x:Str):∀(r:List Nat)(a:Nat),a<=pls.length->(∀ b∈r,b<=pls.length)->(WJ pls x (a::r)=true↔a::r=paper pls x a)
 | [], a,ha,_=>by
  show (decide (a=0) || Yk pls x a)=true↔_
  cases a with
  | zero=>rw [Vj];simp
  | succ a =>
   cases hh:Yk pls x (a+1) with
   | true=>rw [VF hh];simp
   | false =>
    obtain ⟨s,es⟩:=Vi pls x (pls.getD a ⟨0,.clr "",0,0⟩).ah
    rw [ZaC B (by omega) hh,es];simp
 | b :: r, a,ha,hr=>by
  show ((decide (a≠0)&&!Yk pls x a&&decide (ahV pls a=nV b))&&WJ pls x (b::r))=true↔_
  have G:=ZeA B x r b (hr b mem_cons_self) (fun c I=>hr c (mem_cons_of_mem _ I))
  cases a with
  | zero=>rw [Vj];simp
  | succ a =>
   cases hh:Yk pls x (a+1) with
   | true=>rw [VF hh];simp
   | false =>
    rw [ZaC B (by omega) hh]
    have e:ahV pls (a+1)=nV (pls.getD a ⟨0,.clr "",0,0⟩).ah:=rfl
    obtain ⟨s,es⟩:=Vi pls x (pls.getD a ⟨0,.clr "",0,0⟩).ah
    rw [e]
    by_cases z:(pls.getD a ⟨0,.clr "",0,0⟩).ah=b
    ·rw [z,decide_eq_true (rfl:nV b=nV b),QI,G];simp
    ·rw [decide_eq_false (show ¬ nV (pls.getD a ⟨0,.clr "",0,0⟩).ah=nV b from fun y=>z (by have:=V.int.inj y;omega)),es]
     constructor
     ·intro y;simp at y
     ·intro y
      injection y with _ y
      injection y with y _
      exact absurd y.symm z
theorem Zeq :∀{l:List Nat}{j:Nat},j∈Wb p l->j∈l
 | a :: r,j,h=>by
  unfold Wb at h
  split at h
  ·rw [mem_singleton.mp h];exact mem_cons_self
  ·rcases mem_cons.mp h with rfl | h
   ·exact mem_cons_self
   ·exact mem_cons_of_mem _ (Zeq h)
theorem ZdL (B:WfP pls){k j:Nat}(z:k<=pls.length)(h:j∈paper pls x k):j<=k:=Zfv B _ _ z j (Zeq h)
theorem ZlF {K:Qa}(h:Xa v):∃ d,DatA K H v d/\d.canLay0=true/\d.depth=0:=by
 cases v<;>first | exact ⟨_,.int _,rfl,rfl⟩ | exact ⟨_,.str _,Zef h.2 (fun c z=>by unfold sgn at z;simp at z;omega),rfl⟩ | exact h.elim
theorem ZaB (h:Xw x):Jo x=true:=Zef h.2.2 (fun c z=>by unfold Ve at z;simp at z;omega)
def UE (n:Nat):QM->Bool
 | .int i=>decide (0<=i)&&decide (i < ((n+1:Nat):Int))
 | _=>false
theorem ZeQ {n:Nat}:∀{vs:List V}{ds:List QM},DatAs K H vs ds->ds.all (UE n)=true->∃ B:List Nat,vs=B.map nV/\ds=(B.map fun n:Nat=>(n:Int)).map QF/\∀ m∈B,m<=n
 | _,_,.nil,_=>⟨[],rfl,rfl,fun _ z=>nomatch z⟩
 | _,_,.cons (d:=d) a b,h=>by
  rw [all_cons,QI] at h
  obtain ⟨B,rfl,rfl,I⟩:=ZeQ b h.2
  cases a with
  | int i =>
   have h1:(decide (0<=i)&&decide (i < ((n+1:Nat):Int)))=true:=h.1
   simp only [QI,decide_eq_true_eq] at h1
   obtain ⟨z,rfl⟩:∃ z:Nat,i=(z:Int):=⟨i.toNat,by omega⟩
   exact ⟨z::B,rfl,rfl,fun m G=>(mem_cons.mp G).elim (fun e=>by omega) (I m)⟩
  | non=>exact absurd h.1 (fun z=>by cases z)
  | bl b=>exact absurd h.1 (fun z=>by cases z)
  | str x=>exact absurd h.1 (fun z=>by cases z)
  | lst _ _ _=>exact absurd h.1 (fun z=>by cases z)
  | tup _ _ _=>exact absurd h.1 (fun z=>by cases z)
theorem Zdf {n:Nat}:∀{B:List Nat},(∀ m∈B,m<=n)->((B.map fun n:Nat=>(n:Int)).map QF).all (UE n)=true
 | [],_=>rfl
 | m::B,h=>by
  rw [map_cons,map_cons,all_cons,Zdf fun z G=>h z (mem_cons_of_mem _ G)]
  have:=h m mem_cons_self
  show ((decide (0<=(m:Int))&&decide ((m:Int) < ((n+1:Nat):Int)))&&true)=true
  rw [decide_eq_true (show 0<=(m:Int) by omega),decide_eq_true (show (m:Int) < ((n+1:Nat):Int) by omega)];rfl
theorem ZiB {z B:List Nat}(h:(z.map fun n:Nat=>(n:Int)).map QF=(B.map fun n:Nat=>(n:Int)).map QF):z=B:=by
 exact (List.map_inj_right (fun a b e=>by omega)).mp (Zaw h)
section
variable {P:Qk}{w:Qs}{K:Qa}{mg:Str->Option Qc}{base:Heap}{CR CS Pl:Addr}
inductive Zgj (vs:List V)(H:Hp)(Q:VK)(w_3:XK):Prop
 | mk (u v:_):vs=[u,v]->NvP u->NvP v->Q (.bl (decide (u=v))) H->Zgj vs H Q w_3
abbrev nLA2:List Str:=["_law_one","_law_other"]
abbrev ZfQ:List Str:=["_law_one","_law_other"]
theorem ZnL:Zo nLA2 ZfQ (Zi s_l_alike):={}
theorem ZfL (F:Fun K "_law_alike" "_law_alike" s_l_alike f fd)(T:Yj mg):FnOk P w K mg base ZI 1 f fd ZfQ Zgj:=by
 refine F.ok ZnL (fun B A outer s H vs Q E Y h=>?_)
 obtain ⟨u,v,rfl,J,G,q⟩:=h
 refine' ⟨?t,?h,?r⟩
 case h =>
  conv=>arg 2;whnf
  with_reducible refine' (Zf (ZZ ?h1 (Zg ?h2) ZS) (Zg ?h3))
  case h1=>exact PW.pt (Wt (Xm (Zu Wx rfl T.isinstance (by decide +kernel) (Zb (pv 0) (Zb (YZ rfl T.bool (by decide +kernel) (v:=.ty "bool") rfl) Za)))) (Wu (ZG Vh (Zbm (UH (pv 0))) (Zbm (UH (pv 1))) (ZA _))))
  case h2=>exact Zl XY
  case h3=>exact Zl (Xl (Yx ZY (Zu Wx rfl T.isinstance (by decide +kernel) (Zb (pv 0) (Zb (YZ rfl T.str (by decide +kernel) (v:=.ty "str") rfl) Za))) (Zu Wx rfl T.isinstance (by decide +kernel) (Zb (pv 1) (Zb (YZ rfl T.str (by decide +kernel) (v:=.ty "str") rfl) Za))) (ZA _)) (XW (Yx ZY (pv 0) (pv 1) (ZA _))))
 try dsimp only [Yz,Cx.nox]
 refine zs2 ?_
 intro W Z I
 rcases Ur J with rfl | ⟨i,rfl⟩ | ⟨x,rfl⟩<;>rcases Ur G with rfl | ⟨j,rfl⟩ | ⟨y,rfl⟩
 ·refine ⟨_,rfl,_,_,_,_,rfl,.non,rfl,_,rfl,Zz ⟨_,rfl,_,rfl,rfl,_,rfl,?_⟩⟩
  refine Zz ⟨_,rfl,_,_,_,_,rfl,.non,rfl,_,rfl,_,_,_,_,rfl,.non,rfl,rfl,true,?_,ZF ⟨_,rfl,_,rfl,rfl,q⟩⟩
  rw [decide_eq_true rfl]
 ·refine ⟨_,rfl,_,_,_,_,rfl,.non,rfl,_,rfl,Zz ⟨_,rfl,_,rfl,rfl,_,rfl,?_⟩⟩
  exact ZF (by rw [decide_eq_false (fun z=>by cases z)] at q;exact q)
 ·refine ⟨_,rfl,_,_,_,_,rfl,.non,rfl,_,rfl,Zz ⟨_,rfl,_,rfl,rfl,_,rfl,?_⟩⟩
  exact ZF (by rw [decide_eq_false (fun z=>by cases z)] at q;exact q)
 ·refine ⟨_,rfl,_,_,_,_,rfl,.int _,rfl,_,rfl,Zz ⟨_,rfl,_,rfl,rfl,_,rfl,?_⟩⟩
  exact ZF (by rw [decide_eq_false (fun z=>by cases z)] at q;exact q)
 ·refine ⟨_,rfl,_,_,_,_,rfl,.int _,rfl,_,rfl,Zz ⟨_,rfl,_,rfl,rfl,_,rfl,?_⟩⟩
  refine Zz ⟨_,rfl,_,_,_,_,rfl,.int _,rfl,_,rfl,_,_,_,_,rfl,.int _,rfl,rfl,true,?_,ZF ⟨_,rfl,_,rfl,rfl,q⟩⟩
  rw [decide_eq_true rfl]
 ·refine ⟨_,rfl,_,_,_,_,rfl,.int _,rfl,_,rfl,Zz ⟨_,rfl,_,rfl,rfl,_,rfl,?_⟩⟩
  refine Zz ⟨_,rfl,_,_,_,_,rfl,.int _,rfl,_,rfl,_,_,_,_,rfl,.str _,rfl,rfl,false,?_,Zz (by rw [decide_eq_false (fun z=>by cases z)] at q;exact q)⟩
  rw [decide_eq_false (fun z=>by cases z)]
 ·refine ⟨_,rfl,_,_,_,_,rfl,.str _,rfl,_,rfl,Zz ⟨_,rfl,_,rfl,rfl,_,rfl,?_⟩⟩
  exact ZF (by rw [decide_eq_false (fun z=>by cases z)] at q;exact q)
 ·refine ⟨_,rfl,_,_,_,_,rfl,.str _,rfl,_,rfl,Zz ⟨_,rfl,_,rfl,rfl,_,rfl,?_⟩⟩
  refine Zz ⟨_,rfl,_,_,_,_,rfl,.str _,rfl,_,rfl,_,_,_,_,rfl,.int _,rfl,rfl,false,?_,Zz (by rw [decide_eq_false (fun z=>by cases z)] at q;exact q)⟩
  rw [decide_eq_false (fun z=>by cases z)]
 ·refine ⟨_,rfl,_,_,_,_,rfl,.str _,rfl,_,rfl,Zz ⟨_,rfl,_,rfl,rfl,_,rfl,?_⟩⟩
  refine Zz ⟨_,rfl,_,_,_,_,rfl,.str _,rfl,_,rfl,_,_,_,_,rfl,.str _,rfl,rfl,true,?_,ZF ⟨_,rfl,_,rfl,rfl,q⟩⟩
  rw [decide_eq_true rfl]
inductive ZjN (K:Qa)(vs:List V)(H:Hp)(Q:VK)(w_3:XK):Prop
 | mk (sl:Addr) (pls:List ZE) (k:Nat) (x:Str) (told v:V) (d:QM) (NS:List Str):Xw x->(∀ y∈NS,Xw y)->vs=[.ref sl,.int (k:Int),.str x,told,v]->StopL pls sl H->WfP pls->(∀ q∈pls,q.st.ok NS)->k<=pls.length->pls.length<=10000->NvP told->DatA K H v d->(∀ b H',(b=true↔d=tpN (paper pls x k)/\Ys pls x k=told)->Same H H'->Q (.bl b) H')->ZjN K vs H Q w_3
abbrev nSh:List Str:=["_law_stops","_law_place","_law_name","_law_told","_law_paper","_law_one","_law_further","_law_step_here"]
abbrev Zjt:List Str:=["_law_stops","_law_place","_law_name","_law_told","_law_paper"]
theorem scSh:Zo nSh Zjt (Zi s_l_shown):={}
theorem ZnC (F:Fun K "_law_shown" "_law_shown" s_l_shown f fd)(T:Yj mg)(DIW:Def P w K mg base 1 "_law_is_whole" ZfP (VW K))(DLA:Def P w K mg base 1 "_law_alike" ZfQ Zgj):FnOk P w K mg base ZI 2 f fd Zjt (ZjN K):=by
 refine F.ok scSh (fun cdv A outer s H vs Q E hr h=>?_)
 obtain ⟨sl,pls,k,x,told,v,d,NS,hnx,hns,rfl,R,hw,ok,hk,hpl,hv,hd,q⟩:=h
 refine' ⟨?t,?h,?r⟩
 case h =>
  conv=>arg 2;whnf
  with_reducible refine' (Zf (ZZ ?h1 (Zg ?h2) ZS) (Zf (ZZ ?h3 (Zg ?h4) ZS) (Zf (Wr ?h5 ?h6 ?h7 ?h8 (Zg (ZZ ?h9 (Zg ?h10) ZS)) ?h11) (Zf ?h12 (Zf (ZZ ?h13 (Zg ?h14) ZS) (Zg ?h15))))))
  case h1=>exact PW.pt (Wt (Ws (Xm (Zu (Wc (K:=K) rfl) rfl T.isinstance (by decide +kernel) (Zb (pv 4) (Zb (YZ rfl T.tuple (by decide +kernel) (v:=.ty "tuple") rfl) Za))))) (Wu (ZG ZY (Zu ZH rfl T.len QC (Zb (pv 4) Za)) Zc (ZA _))))
  case h2=>exact Zl XY
  case h3=>exact PW.pt (Wt (Ws (Xm (Zu (UT rfl) rfl T.all (by decide +kernel) (Zb (We (CompOk.of nSh s_l_shown rfl rfl (by decide +kernel)) rfl (Zbo (pv 4))  (fun _ _ _ _ _=>Xl (Zy DIW hr (Zb (pv 8) Za)) (XW (ZiW Zkk Us Zc (pv 8) (Zu (Zco (K:=K) rfl) rfl T.len QC (Zb (pv 0) Za)))))) Za)))) (Wu (ZG Vh (Zk ZK (pv 4) Zc (fun _ _=>rfl)) (pv 1) (ZA _))))
  case h4=>exact Zl XY
  case h5=>exact QU
  case h6=>exact rfl
  case h7=>exact PI.or (ZmK rfl T.zip (pv 4) (Yc (Zfa (K:=K) rfl) (pv 4) (ZR Zc) Yi)) (Zlm rfl T.zip (pv 4) (Yc (Zfa (K:=K) rfl) (pv 4) (ZR Zc) Yi))
  case h8=>exact WO rfl (Yp (ZW (i:=5) scSh.nd rfl (Qy rfl)) (Yp (ZW (i:=6) scSh.nd rfl (Qy rfl)) Wf))
  case h9=>exact PW.pt (Wt (ZG ZY (pv 5) Zc (ZA _)) (Wt (ZG Vh (Zk ZK (Zk Zt (pv 0) (pv 5) (fun _ _=>rfl)) Zc (fun _ _=>rfl)) (pv 6) (ZA _)) (Wu (ZG ZY (Zk ZK (Zk ZK (Zk Zt (pv 0) (pv 5) (fun _ _=>rfl)) Zc (fun _ _=>rfl)) Zc (fun _ _=>rfl)) (pv 2) (ZA _)))))
  case h10=>exact Zl XY
  case h11=>exact fun _=>rfl
  case h12=>exact Zs (i:=7) scSh.nd rfl (Qy rfl) (Zk ZK (Zk Zt (pv 0) (Zk ZK (pv 4) (WV Ww Zc) (fun _ _=>rfl)) (fun _ _=>rfl)) Zc (fun _ _=>rfl))
  case h13=>exact PW.pt (Wt (UI (UH (pv 7))) (Wu (ZG (ZmF (K:=K) rfl hr.units) (pv 7) (Yt (Zb ZM (Zb (pv 2) Za))) (ZA _))))
  case h14=>exact Zl (Zbm (UH (pv 3)))
  case h15=>exact Zl (Xl (Yx ZY (Zk ZK (pv 7) Zc (fun _ _=>rfl)) ZM (ZA _)) (Xl (Yx ZY (Zk ZK (pv 7) Zc (fun _ _=>rfl)) (pv 2) (ZA _)) (XW (Zy DLA hr (Zb (Zk ZK (pv 7) Zc (fun _ _=>rfl)) (Zb (pv 3) Za))))))
 try dsimp only [Yz,Cx.nox]
 refine zs6 ?_
 intro zD zS zN5 zN4 zN3 zN2 zN1
 obtain ⟨t,ty,i1,_,_⟩:=Zda hd
 refine ⟨_,rfl,_,_,t,_,rfl,ty,i1,_,rfl,?_⟩
 cases hd with
 | int i=>exact ZF (q false H ⟨(fun z=>by cases z),(fun z=>by cases z.1)⟩ (Same.refl H))
 | bl b=>exact ZF (q false H ⟨(fun z=>by cases z),(fun z=>by cases z.1)⟩ (Same.refl H))
 | str x=>exact ZF (q false H ⟨(fun z=>by cases z),(fun z=>by cases z.1)⟩ (Same.refl H))
 | non=>exact ZF (q false H ⟨(fun z=>by cases z),(fun z=>by cases z.1)⟩ (Same.refl H))
 | lst _ _ _=>exact ZF (q false H ⟨(fun z=>by cases z),(fun z=>by cases z.1)⟩ (Same.refl H))
 | @tup p xs es e hl dq =>
  have hle:=dq.len
  obtain ⟨pr,hpr⟩:=Vi pls x k
  have W:∀ {H':Hp},es≠((paper pls x k).map fun n:Nat=>(n:Int)).map QF->Same H H'->Q (.bl false) H':=fun hb s'=>q false _ ⟨(fun z=>by cases z),fun z=>absurd (by have z:=z.1;unfold tpN at z;injection z) hb⟩ s'
  refine Zz ⟨_,rfl,p,_,rfl,.inr e,rfl,_,rfl,Xk (fun c=>?_) (fun c=>?_)⟩
  ·exact W (fun z=>by
    have c:=of_decide_eq_true c
    have c:((xs.length:Nat):Int)=0:=V.int.inj c
    rw [z,hpr] at hle;simp at hle;omega) (Same.refl H)
  have hne:xs.length≠0:=fun z=>c (decide_eq_true (by rw [z];rfl))
  refine ⟨_,rfl,p,rfl,⟨_,e⟩,fun D hD=>?_⟩
  refine Zar (K:=K) (xs:=xs) (Yw (show _<=20000 from hl)) (fun i ys H'=>i<=es.length/\Same H H'/\H' D=some (.lst ys)/\ys=((es.take i).map (UE pls.length)).map V.bl) ⟨Qx _,Zv hD _,Zh,rfl⟩ ?_ ?_ ?_
  ·rintro i ys H' ⟨hi,s6,_,rfl⟩;exact ⟨by rw [length_map,length_map,length_take];omega,e.tf s6.tf⟩
  ·rintro i v ys H' hv ⟨hi,s6,eD2,rfl⟩
   obtain ⟨d1,hd1,dv⟩:=dq.at hv
   have fin:∀ b,b=UE pls.length d1->H' D=some (.lst (((es.take i).map (UE pls.length)).map V.bl))/\i+1<=es.length/\Same H (upd H' D (.lst (((es.take i).map (UE pls.length)).map V.bl++[V.bl b])))/\upd H' D (.lst (((es.take i).map (UE pls.length)).map V.bl++[V.bl b])) D=some (.lst (((es.take i).map (UE pls.length)).map V.bl++[V.bl b]))/\((es.take i).map (UE pls.length)).map V.bl++[V.bl b]=((es.take (i+1)).map (UE pls.length)).map V.bl:=fun b hb=>by
    refine ⟨eD2,by have:=(Qj.mp hd1).1;omega,fun b o q=>?_,Zh,?_⟩
    ·rw [Zj (Zx q hD)];exact s6 _ _ q
    ·rw [take_add_one,hd1,map_append,map_append,hb];rfl
   refine ⟨_,rfl,v,d1,rfl,dv.same s6,?_⟩
   refine ⟨_,rfl,?_⟩
   cases hnb:Vf d1 with
   | false=>exact Zz (fin false (by cases d1<;>first | rfl | cases hnb))
   | true =>
    obtain ⟨j,rfl⟩:∃ j,d1=.int j:=by cases d1<;>first | exact ⟨_,rfl⟩ | cases hnb
    cases dv
    refine ZF ⟨_,rfl,_,_,rfl,rfl,_,rfl,?_⟩
    by_cases h0:0<=j
    ·rw [decide_eq_true h0]
     obtain ⟨as,eas,hal,_⟩:=id R
     refine ZF ⟨_,rfl,.ref sl,pls.length+1,rfl,.inl ⟨_,SqL.of (s6 _ _ eas),by rw [length_map];exact hal.symm⟩,_,_,rfl,rfl,?_⟩
     exact fin _ (by show _=(decide (0<=j)&&_);rw [decide_eq_true h0];rfl)
    ·rw [decide_eq_false h0]
     exact Zz (fin false (by show _=(decide (0<=j)&&_);rw [decide_eq_false h0];rfl))
  rintro ys H6 ⟨_,s6,eD2,rfl⟩
  rw [take_of_length_le (by omega)] at eD2
  refine ⟨D,_,rfl,SqL.of eD2,?_⟩
  rw [show ((es.map (UE pls.length)).all id)=es.all (UE pls.length) from by rw [List.all_map];rfl]
  have hpa:∀ m∈paper pls x k,m<=pls.length:=fun m hm=>Qo (ZdL hw hk hm) hk
  cases ha:es.all (UE pls.length) with
  | false=>exact ⟨_,rfl,ZF (W (fun z=>by rw [z,Zdf hpa] at ha;cases ha) s6)⟩
  | true =>
   obtain ⟨ms,rfl,rfl,hms⟩:=ZeQ dq ha
   have W:∀ {H':Hp},ms≠paper pls x k->Same H H'->Q (.bl false) H':=fun hb s'=>W (fun z=>hb (ZiB z)) s'
   clear eD2 hD ha
   rw [length_map] at hne hl
   obtain ⟨I,G,rfl⟩:=JG (show ms≠[] from fun z=>hne (by rw [z];rfl))
   refine ⟨_,rfl,Zz ⟨_,rfl,p,_,_,_,rfl,rfl,e.tf s6.tf,Zm (j:=0) rfl,_,rfl,rfl,_,rfl,?_⟩⟩
   by_cases hmk:I=k
   ·subst hmk
    rw [show (!decide (nV I=V.int (I:Int)))=false by simp [nV]]
    refine Zz ?_
    have J:=ZeA hw x G I hk (fun b hb=>hms b (mem_cons_of_mem _ hb))
    refine .inr ⟨_,rfl,?_⟩
    refine ⟨_,rfl,?_⟩
    dsimp only [ZcY,VX]
    refine ⟨_,rfl,p,_,rfl,e.tf s6.tf,.inr ⟨fun z=>?_,fun p2 hp2=>?_⟩⟩
    ·have z:HT.sIx ((I::G).map nV).length 0 (some ((1:Nat):Int))=0/\_:=z
     rw [HT.sIx_nat,length_map,length_cons] at z;omega
    rw [Zdp]
    have s7:Same H (upd H6 p2 (.tup ((I::G).map nV).tail)):=s6.trans (Zv hp2 _)
    have e7:(upd H6 p2 (.tup ((I::G).map nV).tail)) p2=some (.tup (G.map nV)):=Zh
    generalize upd H6 p2 (.tup ((I::G).map nV).tail)=H7 at s7 e7 ⊢
    refine ⟨p,p2,(I::G).map nV,G.map nV,rfl,e.tf s7.tf,SqT.of e7,?_⟩
    refine ZgK (K:=K) (D:={ zD with nx:=zN3 }) (xs:=(I::G).map nV) (ys:=G.map nV) (by rw [length_map,length_map,length_cons];omega) (fun i σ H'=>∃ x5 x6 a,σ=[some (.ref sl),some (.int (I:Int)),some (.str x),some told,some (.ref p),x5,x6,none]/\Same H H'/\H' p2=some (.tup (G.map nV))/\(I::G)[i]?=some a/\WJ pls x (I::G)=WJ pls x ((I::G).drop i)/\Xb pls x I=Xb pls x a) ⟨_,_,I,rfl,s7,e7,rfl,rfl,rfl⟩ ?_ ?_ ?_
    ·rintro i σ H8 _ ⟨_,_,_,rfl,s8,e8,_⟩;exact ⟨e.tf s8.tf,SqT.of e8⟩
    ·rintro i xx yy t1 σ H8 hxx hyy ht1 ⟨x5,x6,a,rfl,s8,e8,Y,B,hla⟩
     rw [getElem?_map,Y] at hxx
     cases hxx
     rw [getElem?_map] at hyy
     obtain ⟨b,hb,rfl⟩:=Rj.mp hyy
     have hb1:(I::G)[i+1]?=some b:=hb
     have s9:=Zv ht1 (.tup [nV a,nV b])
     refine ⟨t1,_,rfl,SqT.of Zh,rfl,_,_,rfl,_,_,rfl,rfl,?_⟩
     have R9:StopL pls sl (upd H8 t1 (.tup [nV a,nV b])):=Up.up R (s8.trans s9)
     have e9:=s9 _ _ e8
     have s8:=s8.trans s9
     generalize upd H8 t1 (.tup [nV a,nV b])=H9 at R9 e9 s8 ⊢
     clear s9 ht1
     have hl1:=(Qj.mp Y)
     have hl2:=(Qj.mp hb1)
     have hdr:(I::G).drop i=a::b::(I::G).drop (i+2):=by
      rw [GI hl1.1,hl1.2,GI hl2.1,hl2.2]
     have hdr2:(I::G).drop (i+1)=b::(I::G).drop (i+2):=by rw [GI hl2.1,hl2.2]
     rw [hdr] at B
     have B:WJ pls x (I::G)=((decide (a≠0)&&!Yk pls x a&&decide (ahV pls a=nV b))&&WJ pls x (b::(I::G).drop (i+2))):=B
     have hal:a<=pls.length:=hms a (mem_of_getElem? Y)
     obtain ⟨ys,aa,xa,y,e1,e2,e3,rfl,e5,_⟩:=StopL.at R9 hal
     refine ⟨_,rfl,rfl,_,rfl,?_⟩
     cases a with
     | zero=>exact ZF (W (fun z=>by rw [J.mpr z] at B;cases B) s8)
     | succ a =>
      obtain ⟨b5,st,rfl,es5,eb⟩:=e5
      rw [show decide (nV (a+1)=V.int 0)=false from decide_eq_false (fun z=>by have:=V.int.inj z;omega)]
      refine Zz ⟨_,rfl,_,rfl,sl,_,_,_,rfl,rfl,SqL.of e1,Zm e2,aa,_,_,_,rfl,rfl,SqT.of e3,Zm (j:=0) rfl,_,rfl,rfl,_,rfl,?_⟩
      by_cases hab:ahV pls (a+1)=nV b
      ·rw [decide_eq_true hab]
       refine Zz ⟨_,rfl,_,rfl,sl,_,_,_,rfl,rfl,SqL.of e1,Zm e2,aa,_,_,_,rfl,rfl,SqT.of e3,Zm (j:=1) rfl,b5,_,_,_,rfl,rfl,SqT.of eb,Zm (j:=1) (vs1 st),_,rfl,rfl,_,rfl,?_⟩
       rw [<- ZbI (x:=x) es5]
       cases hh:Yk pls x (a+1) with
       | true=>exact ZF (W (fun z=>by rw [J.mpr z,hh] at B;simp at B) s8)
       | false =>
        refine Zz ⟨_,_,b,rfl,s8,e9,hb1,?_,?_⟩
        ·rw [B,hdr2,hh,hab];simp
        ·rw [hla,Zax hw (by omega) hh]
         have z:V.int (((pls.getD a ⟨0,.clr "",0,0⟩).ah:Nat):Int)=nV b:=by rw [<- hab];rfl
         rw [show (pls.getD a ⟨0,.clr "",0,0⟩).ah=b from by have:=V.int.inj z;omega]
      ·rw [decide_eq_false hab]
       exact ZF (W (fun z=>by rw [J.mpr z,decide_eq_false hab] at B;simp at B) s8)
    ·rintro σ H8 ⟨x5,x6,a,rfl,s8,e8,Y,B,hla⟩
     have hli:(G.map nV).length=G.length:=length_map ..
     rw [hli] at Y B
     have hdr:(I::G).drop G.length=[a]:=by
      obtain ⟨h1,h2⟩:=Qj.mp Y
      rw [GI h1,h2,Jk (by rw [length_cons];omega)]
     rw [hdr] at B
     have B:WJ pls x (I::G)=(decide (a=0) || Yk pls x a):=B
     have R8:StopL pls sl H8:=Up.up R s8
     have hal:a<=pls.length:=hms a (mem_of_getElem? Y)
     obtain ⟨ys,aa,xa,y,e1,e2,e3,rfl,e5,_⟩:=StopL.at R8 hal
     have hat:YR ((I::G).map nV) (-1)=some (nV a):=by
      have el:((I::G).map nV).length=G.length+1:=by rw [length_map,length_cons]
      unfold YR
      rw [el,show Wo (G.length+1) (-1)=some G.length by unfold Wo;rw [if_neg (by omega),if_pos (by omega),show (-1+((G.length+1:Nat):Int)).toNat=G.length by omega]]
      show ((I::G).map nV)[G.length]?=_
      rw [getElem?_map,Y];rfl
     refine ⟨_,rfl,_,rfl,_,rfl,p,_,_,_,rfl,rfl,e.tf s8.tf,hat,sl,_,_,_,rfl,rfl,SqL.of e1,Zm e2,aa,_,_,_,rfl,rfl,SqT.of e3,Zm (j:=1) rfl,?_⟩
     clear e8 e7 hp2 hli hdr hat
     cases a with
     | zero =>
      cases (show y=.non from e5)
      have hwk:Ys pls x I=.non:=by unfold Ys;rw [hla,Vc]
      refine ⟨_,rfl,_,rfl,?_⟩
      rw [decide_eq_true (rfl:V.non=V.non)]
      refine ZF (ZF ⟨_,rfl,q _ H8 ⟨fun z=>⟨?_,?_⟩,fun z=>?_⟩ s8⟩)
      ·rw [<- J.mp B];rfl
      ·rw [hwk,of_decide_eq_true z]
      ·exact decide_eq_true (by rw [<- z.2,hwk])
     | succ a =>
      obtain ⟨b5,st,rfl,es5,eb⟩:=e5
      have hst:st.ok NS:=by
       rw [getElem?_map] at es5
       obtain ⟨q5,hq5,rfl⟩:=Rj.mp es5
       exact ok _ (mem_of_getElem? hq5)
      have B:WJ pls x (I::G)=Yk pls x (a+1):=by rw [B];simp
      have hwk:Yk pls x (a+1)=true->Ys pls x I=stW st:=fun z=>ZaK (by rw [hla,VA z]) es5
      have hh:=ZbI (x:=x) es5
      refine ⟨_,rfl,_,rfl,?_⟩
      rw [decide_eq_false (show ¬ V.ref b5=V.non from fun z=>by cases z)]
      refine Zz ⟨_,rfl,_,rfl,(by show 2<=Qg;decide),fun t2 ht2=>?_⟩
      have s9:=s8.trans (Zv ht2 (.tup [V.str "clear",V.str x]))
      have Z:=Zv ht2 (.tup [V.str "clear",V.str x]) _ _ eb
      have e9:(upd H8 t2 (.tup [V.str "clear",V.str x])) t2=some (.tup [V.str "clear",V.str x]):=Zh
      generalize upd H8 t2 (.tup [V.str "clear",V.str x])=H9 at s9 Z e9 ⊢
      have dC:DatA K H9 (.ref t2) (.tuple [.str "clear",.str x]):=.tup (SqT.of e9) (by show 2<=20000;decide) (.cons (.str _) (.cons (.str _) .nil))
      have lC:(Ri [.str "clear",.str x]).canLay0=true:=by
       show (Jo "clear"&&(Jo x&&true))=true
       rw [ZaB hnx];decide +kernel
      cases st with
      | clr y =>
       have dS:DatA K H9 (.ref b5) (.tuple [.str "clear",.str y]):=.tup (SqT.of Z) (by show 2<=20000;decide) (.cons (.str _) (.cons (.str _) .nil))
       have lS:(Ri [.str "clear",.str y]).canLay0=true:=by
        show (Jo "clear"&&(Jo y&&true))=true
        rw [ZaB (hns y hst)];decide +kernel
       refine ⟨_,_,dS,dC,lS,lC,(by simp [Np,Gy]),_,rfl,?_⟩
       rw [show JV (.tuple [.str "clear",.str y]) (.tuple [.str "clear",.str x])=decide (V.str y=V.str x) by simp [JV,Ju];rfl]
       rw [show decide (V.str y=V.str x)=Yk pls x (a+1) from hh.symm]
       cases hx:Yk pls x (a+1) with
       | true =>
        rw [hx] at B
        have hw2:Ys pls x I=.non:=hwk hx
        refine ZF ⟨_,rfl,q _ H9 ⟨fun z=>⟨?_,?_⟩,fun z=>?_⟩ s9⟩
        ·rw [<- J.mp B];rfl
        ·rw [hw2,of_decide_eq_true z]
        ·exact decide_eq_true (by rw [<- z.2,hw2])
       | false =>
        rw [hx] at B
        exact Zz ⟨_,rfl,b5,_,_,_,rfl,rfl,SqT.of Z,Zm (j:=0) rfl,rfl,_,rfl,Zz (W (fun z=>by rw [J.mpr z] at B;cases B) s9)⟩
      | set y u =>
       obtain ⟨du,dau,lau,dpu⟩:=ZlF (K:=K) (H:=H9) hst.2
       have dS:DatA K H9 (.ref b5) (.tuple [.str "set",.str y,du]):=.tup (SqT.of Z) (by show 3<=20000;decide) (.cons (.str _) (.cons (.str _) (.cons dau .nil)))
       have lS:(Ri [.str "set",.str y,du]).canLay0=true:=by
        show (Jo "set"&&(Jo y&&(du.canLay0&&true)))=true
        rw [ZaB (hns y hst.1),lau];decide +kernel
       refine ⟨_,_,dS,dC,lS,lC,(by simp [Np,Gy,dpu]),_,rfl,?_⟩
       rw [show JV (.tuple [.str "set",.str y,du]) (.tuple [.str "clear",.str x])=false by simp [JV,Ju]]
       refine Zz ⟨_,rfl,b5,_,_,_,rfl,rfl,SqT.of Z,Zm (j:=0) rfl,rfl,_,rfl,ZF ⟨_,rfl,b5,_,_,_,rfl,rfl,SqT.of Z,Zm (j:=1) rfl,_,rfl,rfl,_,rfl,?_⟩⟩
       rw [show decide (V.str y=V.str x)=Yk pls x (a+1) from hh.symm]
       cases hx:Yk pls x (a+1) with
       | true =>
        rw [hx] at B
        have hw2:Ys pls x I=u:=hwk hx
        refine ZF ⟨_,rfl,b5,_,_,_,rfl,rfl,SqT.of Z,Zm (j:=2) rfl,_,rfl,u,told,rfl,ZfK (.inr hst.2),hv,q _ H9 ⟨fun z=>⟨?_,?_⟩,fun z=>?_⟩ s9⟩
        ·rw [<- J.mp B];rfl
        ·rw [hw2,of_decide_eq_true z]
        ·exact decide_eq_true (by rw [<- z.2,hw2])
       | false =>
        rw [hx] at B
        exact Zz (W (fun z=>by rw [J.mpr z] at B;cases B) s9)
   ·rw [show (!decide (nV I=V.int (k:Int)))=true by rw [decide_eq_false (fun z=>hmk (by have:=V.int.inj z;omega))];rfl]
    exact ZF (W (fun z=>hmk (by rw [hpr] at z;injection z)) s6)
end
end K26
namespace L2
open PySem PySem.Spec PyProof.Rows
section
variable {prog:Qk}{w:Qs}{A:QD}{E:Qc->Qe->Prop}{s:Qe}
theorem ZcM {l J m:Addr}{B new:Array Qc}{n n':Nat}{vl vu:Qc}{lo hi:Option Int}{Q:Unit->Qe->Prop}(Y:s.heap.get? l=some { cls:=.type "list",data:=.seq B n })(hm:s.heap.get? m=some { cls:=.type "list",data:=.seq new n' })
 (hne:l≠m) (hs:s.heap.IsSliceOf J vl vu .none) (pl:Ra vl lo) (pu:Ra vu hi) (hz:B.size+new.size<=Qg)
 (h:Q () { s with heap:=s.heap.update l (QT fun xs=>xs.extract 0 (Gm lo hi none B.size).1.toNat++new++xs.extract (max (Gm lo hi none B.size).1 (Gm lo hi none B.size).2.1).toNat xs.size) }) :
 Qq (Qw prog w) A (ON (.ref l) (.ref J) (.ref m)) Q E s:=by
 have hl:s.heap.IsList l B:=⟨_,Y,rfl,n,rfl⟩
 have hml:s.heap.IsList m new:=⟨_,hm,rfl,n',rfl⟩
 obtain ⟨os,G,Z,I⟩:=id hs
 have W:s.TypeIs (.ref J) "slice":=⟨os,G,Z⟩
 unfold ON
 try with_reducible refine QS ?_
 first | refine Qb (Qh ?_) | skip
 refine Qb (Sb hl.typeIs (by decide) ?_)
 refine Qb (QV (name:=Qn "__setitem__") hl.typeIs Nq (Go Nq hl.typeIs entry_list_setitem ?_ (args_list_setitem _ _ _)))
 show Qq _ _ (Ti (.ref J) >>= _) _ _ s
 refine Qb ?_
 unfold Ti
 refine Qb (wpAny_specialOf W slice_no_index ?_)
 simp only [Option.isNone_none,if_true]
 refine Qh ?_
 show Qq _ _ (typeOf (.ref J) >>= _) _ _ s
 refine Qb (JM W ?_)
 rw [if_neg (by decide)]
 rw [listSliceParts_eq]
 refine Qb (Qb (QN G I (x:=.none) rfl (Qb (RS (v:=.none) .none ?_))))
 rw [if_neg (show ¬ ((rawPart none == Jv 0)=true) from Qp)]
 refine Qb (QN G I (x:=vl) rfl (Qb (RS pl ?_)))
 refine Qb (QN G I (x:=vu) rfl (Qb (RS pu (Qh ?_))))
 rw [if_neg (show ¬ Su (.ref l) (.ref m)=true from fun z=>hne (by simpa [Su] using z))]
 refine Qb (m:=TM (.ref m) "must assign iterable to extended slice") ?_
 unfold TM
 refine Qb (JM hml.typeIs ?_)
 rw [if_pos (by decide)]
 refine Qb (Gf hm rfl (Qh ?_))
 first | refine Qh ?_ | skip
 refine Qb (m:=Builtin.List.listItems (.ref l)) (Ni Y rfl ?_)
 refine Qb (Se (sliceIndices_raw lo hi none B.size (by simp)) ?_)
 rw [if_pos (show ((Gm lo hi none B.size).2.2 == 1)=true from rfl)]
 refine Qb (Jh ?_)
 rw [if_neg (show ¬ Gs (B.size+new.size)=true from fun z=>absurd (of_decide_eq_true z) (by omega))]
 refine Qb (m:=Builtin.List.listUpdate (.ref l) _) (Pz Y rfl ?_ (by omega) ?_)
 ·exact Qb (Sf (Qh ⟨_,rfl,Qh h⟩))
 ·rw [Nr,Nr,OH,OH];omega
end
theorem Zgn (a b:List Qc)(i j:Nat):(a.toArray.extract 0 i++b.toArray++a.toArray.extract j a.toArray.size)=(a.take i++b++a.drop j).toArray:=by
 simp [take_of_length_le]
theorem Zgo (a b:List Qc)(n i j:Nat):∃ z,QT (fun xs=>xs.extract 0 i++b.toArray++xs.extract j xs.size) { cls:=.type "list",data:=.seq a.toArray n }={ cls:=.type "list",data:=.seq (a.take i++b++a.drop j).toArray z }:=by
 refine ⟨if (a.take i++b++a.drop j).toArray.size == a.toArray.size then n else n+1,?_⟩
 rw [<- Zgn];rfl
section
variable {X:Cx}{o:Expr}{to:TE}{lo hi:Option Expr}{tl th:TO}{pos p2:Pos}
abbrev Zkb:=V->Option Int->Option Int->V->Hp->(Hp->Prop)->Prop
def Znt (to:TE)(tl th:TO)(t:Zkb):TG:=fun v σ H Q=>to σ H fun x H1=>tl σ H1 fun l H2=>th σ H2 fun u H3=>t x l u v H3 fun H4=>Q σ H4
def ZmS:Zkb:=fun o l u v H Q=>∃ p m xs ys,o=.ref p/\v=.ref m/\p≠m/\H p=some (.lst xs)/\H m=some (.lst ys)/\xs.length+ys.length<=Qg/\Q (upd H p (.lst (xs.take (HT.sIx xs.length 0 l)++ys++xs.drop (max (HT.sIx xs.length 0 l) (HT.sIx xs.length xs.length u)))))
theorem Zlk (ho:PE X o to)(hl:PO X lo tl)(hu:PO X hi th)
 (ha:∀ v,SS (.Subscript o (.Slice lo hi none p2) pos) X.env v=(do
  let B <- JL [v] (eval o X.env)
  let Z <- JL [v,B] (eval (.Slice lo hi none p2) X.env)
  TW pos
  JL [v,B,Z] (ON B Z v)
  release [Z,v,B] []):=by intro _;rfl):PG X (.Subscript o (.Slice lo hi none p2) pos) (Znt to tl th ZmS):=by
 intro pins s σ H v u Q I r h
 rw [ha]
 refine Qb (QS (Zw (ho pins s σ H _ I h) fun B s1 z=>?_))
 obtain ⟨x,H1,I1,r1,q1⟩:=z
 refine Qb (QS ?_)
 refine NL (Zw (hl pins s1 σ H1 _ I1 q1) fun vl s2 z=>?_)
 obtain ⟨l,H2,I2,pl,q2⟩:=z
 refine Zw (hu pins s2 σ H2 _ I2 q2) fun vu G z=>?_
 obtain ⟨w,H3,I3,pu,q3⟩:=z
 rw [Og]
 refine Qh ?_
 have Y:Inv X pins σ H3 { G with heap:=G.heap.push { cls:=.type "slice",data:=.fields #[vl,vu,.none] } }:=I3.kept (t':=G.toks) fun b ob q=>Qd _ q
 obtain ⟨p,m,xs,ys,rfl,rfl,hpm,hp,hm,hz,q⟩:=q3
 cases r1
 cases r
 obtain ⟨a,n,J,ea,_⟩:=Y.lst hp
 obtain ⟨b,n',rb,eb,_⟩:=Y.lst hm
 have la:=J.length
 have lb:=rb.length
 obtain ⟨h1,h2,h3⟩:=VG l w a.toArray.size
 refine Qb (GT (Qb (QS ?_)))
 refine ZcM ea eb hpm (Tt ..) pl pu (by rw [size_toArray,size_toArray];omega) ?_
 rw [h1,h2]
 have e0:a.toArray.size=xs.length:=by rw [size_toArray];exact la.symm
 have em:(max ((HT.sIx a.toArray.size 0 l:Nat):Int) ((HT.sIx a.toArray.size a.toArray.size w:Nat):Int)).toNat=max (HT.sIx xs.length 0 l) (HT.sIx xs.length xs.length w):=by rw [e0];omega
 rw [em,GM,e0]
 obtain ⟨n2,W⟩:=Zgo a b n (HT.sIx xs.length 0 l) (max (HT.sIx xs.length 0 l) (HT.sIx xs.length xs.length w))
 refine wpAny_release ⟨σ,_,Y.lstUpd hp ea W (((J.take _).append rb).append (J.drop _)) ?_ _,q⟩
 rw [length_append,length_append,length_take,length_drop];omega
end
end L2
namespace L2
open PySem PySem.W PySem.Spec PyProof.Rows
section
variable {X:Cx}
end
theorem ZeL {n:Nat}:∀ ds:List QM,(∀ d∈ds,d.shown.length<=n)->ZbL ds<=ds.length * (n+2)
 | [],_=>Qx _
 | d::r,h=>by
  have h1:=h d mem_cons_self
  have h2:=ZeL r fun e z=>h e (mem_cons_of_mem _ z)
  unfold ZbL at h2 ⊢
  rw [map_cons,Ol,length_cons,Nat.succ_mul];omega
theorem VY {ds:List QM}{n k:Nat}(h:∀ d∈ds,Sml d n k):Sml (.tuple ds) (3+ds.length * (n+2)) (k+1) :=
 ⟨WB fun d z=>(h d z).sh,Qo (ZhY ds) (GY (ZeL ds fun d z=>(h d z).ln) 3),by have:=Uu (k:=k) fun d z=>(h d z).dp;show Gy ds+1<=_;omega⟩
theorem Sml.up {n m k j:Nat}(h:Sml d n k)(B:n<=m)(z:k<=j):Sml d m j:=⟨h.sh,Qo h.ln B,Qo h.dp z⟩
def strT:QM->Str
 | .str x=>x
 | d=>d.shown
theorem Vx {K:Qa}(hK:X.K=K)(Y:X.A.guards=some [])(hu:X.A.units+64 < OV):YH X (.type "str") (fun xs H Q=>∃ v d,xs=[v]/\DatA K H v d/\((∃ x,d=.str x)\/Sml d Qg 60/\∀ i,d=.int i->i.natAbs.log2 < 1920)/\Q (.str (strT d)) H):=by
 subst hK
 intro pins s σ H xs us Q I r h
 obtain ⟨v,d,rfl,dd,G,q⟩:=h
 obtain ⟨u,rfl,J⟩:=YQ r
 obtain ⟨Z,as,rd⟩:=DatA.reads I u dd J
 have big:((∃ ds,d=.list ds)\/∃ ds,d=.tuple ds)->Qq (Qw X.prog X.w) X.A (call (.type "str") [u]) (EP X pins σ Q) X.xe s:=fun B=>by
  have G:Sml d Qg 60:=by rcases B with ⟨ds,rfl⟩ | ⟨ds,rfl⟩<;>exact G.elim (fun z=>by obtain ⟨x,z⟩:=z;cases z) (·.1)
  have hs:=G.sh
  have W:=G.ln
  have hdp:=G.dp
  rcases B with ⟨ds,rfl⟩ | ⟨ds,rfl⟩
  ·cases rd with
   | list h1 h2 h3 h4=>exact OI (Reads.list h1 h2 h3 h4) hs (fun z=>by rw [Z] at z;cases z) Y (by omega) (fun _ _ e=>e) (fun h' t' k B=>⟨.str _,H,I.kept (t':=k) B,⟨_,rfl⟩,q⟩) W
  ·cases rd with
   | tuple h1 h2 h3 h4=>exact OI (Reads.tuple h1 h2 h3 h4) hs (fun z=>by rw [Z] at z;cases z) Y (by omega) (fun _ _ e=>e) (fun h' t' k B=>⟨.str _,H,I.kept (t':=k) B,⟨_,rfl⟩,q⟩) W
 cases dd with
 | non =>
  cases (show u=GP from J)
  exact PySem.P.str_of_none ⟨.str _,H,I.tok _,⟨_,rfl⟩,q⟩
 | bl b =>
  cases (show u=Jz b from J)
  exact PySem.P.str_of_bool ⟨.str _,H,I.tok _,⟨_,rfl⟩,by cases b<;>exact q⟩
 | int i =>
  obtain ⟨t,rfl⟩:=J
  exact PySem.P.str_of_int (G.elim (fun z=>by obtain ⟨x,z⟩:=z;cases z) fun z=>z.2 i rfl) ⟨.str _,H,I.tok _,⟨_,rfl⟩,q⟩
 | str x =>
  obtain ⟨t,rfl⟩:=J
  exact PySem.P.str_of_str ⟨.str _,H,I,⟨_,rfl⟩,q⟩
 | lst e h q=>exact big (.inl ⟨_,rfl⟩)
 | tup e h q=>exact big (.inr ⟨_,rfl⟩)
end L2
namespace K26
open PySem L2
def El (k:Nat)(d:QM):Prop:=Sml d (100+10 * k) k/\∀ i,d=.int i->i.natAbs<=20000+k
theorem El.up {k j:Nat}(h:El k d)(z:k<=j):El j d:=⟨h.1.up (by omega) z,fun i e=>by have:=h.2 i e;omega⟩
theorem XE {k:Nat}{i:Int}(h:i.natAbs<=20000+k)(B:k<=100):El k (.int i):=by
 refine ⟨?_,fun j e=>by cases e;exact h⟩
 have z:Sml (.int i) 40 k:=ZkJ (Qo (show i.natAbs<=30000 by omega) (by decide)) k
 exact z.up (by omega) (Qf _)
theorem Zfy (k:Nat)(b:Bool):El k (.bool b):=⟨⟨rfl,by cases b<;>(show (_:Str).length<=_;refine Qo (show _<=10 by decide +kernel) (by omega)),Qx _⟩,fun _ e=>by cases e⟩
theorem Zdt (k:Nat):El k .none:=⟨⟨rfl,Qo (show _<=10 by decide +kernel) (by omega),Qx _⟩,fun _ e=>by cases e⟩
theorem ZkG (k:Nat):El k (.str "0"):=⟨Zly (by decide +kernel) (Qo (show 2+4 * (Qn "0").length<=10 by decide +kernel) (by omega)) k,fun _ e=>by cases e⟩
theorem El.tup {k:Nat}(h:El k d):El (k+1) (.tuple [d]):=⟨(VY (ds:=[d]) (n:=100+10 * k) (k:=k) (fun e z=>by rw [mem_singleton.mp z];exact h.1)).up (by simp;omega) (Qf _),fun _ e=>by cases e⟩
theorem El.lst {k:Nat}(h:El k d):El (k+1) (.list [d]):=⟨(ZdA (ds:=[d]) (n:=100+10 * k) (k:=k) (fun e z=>by rw [mem_singleton.mp z];exact h.1)).up (by simp;omega) (Qf _),fun _ e=>by cases e⟩
def Ut (d:QM):Prop:=(∃ x,d=.str x)\/Sml d Qg 60/\∀ i,d=.int i->i.natAbs.log2 < 1920
theorem Ui (h:∀ d∈ds,El 10 d)(z:ds.length<=1000):Ut (.tuple ds):=.inr ⟨(VY (n:=200) (k:=10) fun d B=>(h d B).1).up (Qo (show 3+ds.length * (200+2)<=3+1000 * 202 from GY (JF _ z) 3) (by decide)) (by decide),fun _ e=>by cases e⟩
theorem Zel (h:∀ d∈ds,El 10 d)(z:ds.length<=1000):Ut (.list ds):=.inr ⟨(ZdA (n:=200) (k:=10) fun d B=>(h d B).1).up (Qo (show 2+ds.length * (200+2)<=2+1000 * 202 from GY (JF _ z) 2) (by decide)) (by decide),fun _ e=>by cases e⟩
section
variable {K:Qa}
def Vr (K:Qa)(v:V)(d:QM):Yv:=fun _ h=>DatA K h v d
instance {v:V} {d:QM}:Up (Vr K v d):=⟨fun h s=>DatA.same s h⟩
def Uz (K:Qa)(xs:List V)(es:List QM):Yv:=fun _ h=>DatAs K h xs es
instance {xs:List V} {es:List QM}:Up (Uz K xs es):=⟨fun h s=>DatAs.same s h⟩
def EoR (K:Qa)(xs:List V)(es:List QM)(v:V)(d:QM):Yv:=fun _ h=>DatAs K h xs es/\DatA K h v d
def EtR (K:Qa)(xs:List V)(es:List QM)(v:V)(d:QM)(t l:Addr):Yv:=fun _ h=>DatAs K h xs es/\DatA K h v d/\h t=some (.tup [v])/\h l=some (.lst [v])
theorem ZdV {R R':Yv}(S:Sep ((z,R)::Δ) H)(G:H l=none)(f:∀ h,R z h->Same h (upd h l o)->upd h l o l=some o->R' z (upd h l o)):Sep ((z,R')::Δ) (upd H l o):=by
 obtain ⟨h,s,r,S⟩:=S
 have I:h l=none:=Uq s G
 refine ⟨upd h l o,fun b u e=>?_,f h r (Zv I o) Zh,S.mono fun b u e=>?_⟩
 ·by_cases B:b=l
  ·subst B;rw [Zh] at e ⊢;exact e
  ·rw [Zj B] at e ⊢;exact s _ _ e
 ·have B:=Zx (cut_some.mp e).1 G
  refine cut_some.mpr ⟨by rw [Zj B];exact (cut_some.mp e).1,fun v q=>?_⟩
  rw [Zj B] at q
  exact (cut_some.mp e).2 v q
theorem ZjG {Δ:Rs}{H:Hp}{R:Yv}(z:Addr)(S:Sep Δ H)(h:R z (fun _=>none)):Sep ((z,R)::Δ) H :=
 ⟨fun _=>none,fun b o e=>(by cases e),h,S.mono fun b o e=>cut_some.mpr ⟨e,fun v q=>(by cases q)⟩⟩
def GV (t:TE)(σ:St)(H:Hp)(zs:List V):Prop:=∀(H1:Hp)(Q:VK),Same H H1->(∀ c H',Same H1 H'->H1 c=none->H' c=some (.lst zs)->Q (.ref c) H')->t σ H1 Q
variable {σ:St}{H:Hp}{i:Nat}{lw:Addr}{xs:List V}
theorem cutd (xs:List V)(k:Nat):XA xs (some (k:Int)) none=xs.drop k:=by
 unfold XA
 rw [HT.sIx_none,HT.sIx_nat]
 by_cases h:k<=xs.length
 ·rw [PV h];exact take_of_length_le (by rw [length_drop];exact Qf _)
 ·rw [SK (by omega),Jk (Qf _),Jk (by omega),List.take_nil]
theorem UD {j:Nat}(h:σ[i]?=some (some (.ref lw)))(e:H lw=some (.lst xs))(B:∀ H' R,R (.int (j:Int)) H'->te σ H' R):GV (tSl (ZfZ K) (ZaH i) VX (ZcY te)) σ H (xs.take j):=fun H1 Q s q=>by
 refine ⟨_,h,B H1 _ ⟨_,rfl,lw,_,rfl,SqL.of (s _ _ e),fun c z=>?_⟩⟩
 rw [Zas]
 exact q c _ (Zv z _) z Zh
theorem VP {j:Nat}(h:σ[i]?=some (some (.ref lw)))(e:H lw=some (.lst xs))(B:∀ H' R,R (.int (j:Int)) H'->te σ H' R):GV (tSl (ZfZ K) (ZaH i) (ZcY te) VX) σ H (xs.drop j):=fun H1 Q s q=>by
 refine ⟨_,h,B H1 _ ⟨_,rfl,lw,_,rfl,SqL.of (s _ _ e),fun c z=>?_⟩⟩
 rw [cutd]
 exact q c _ (Zv z _) z Zh
theorem UC (Y:GV a σ H xs)(G:GV b σ H ys)(z:xs.length+ys.length<=100000):GV (tOp rCat a b) σ H (xs++ys):=fun H1 Q s q=>by
 refine Y H1 _ s fun W H2 s2 n1 e1=>G H2 _ (s.trans s2) fun I H3 B Z J=>?_
 refine ⟨W,I,_,_,rfl,rfl,B _ _ e1,J,Yw (show _<=100000 from z),fun l z=>?_⟩
 exact q l _ ((s2.trans B).trans (Zv z _)) (Uq (s2.trans B) z) Zh
theorem ZgM (B:∀ H' R,R y H'->te σ H' R):GV (tLst (Xh te Wa)) σ H [y]:=fun H1 Q s q =>
 B H1 _ ⟨(by show 1<=Qg;decide),fun l z=>q l _ (Zv z _) z Zh⟩
theorem DatAs.take :∀(i:Nat){vs ds},DatAs K h vs ds->DatAs K h (vs.take i) (ds.take i)
 | 0,_,_,_=>.nil
 | _+1,_,_,.nil=>.nil
 | i+1,_,_,.cons a b=>.cons a (DatAs.take i b)
theorem DatAs.drop :∀(i:Nat){vs ds},DatAs K h vs ds->DatAs K h (vs.drop i) (ds.drop i)
 | 0,_,_,a=>a
 | _+1,_,_,.nil=>.nil
 | i+1,_,_,.cons _ b=>DatAs.drop i b
theorem DatAs.rev :∀{vs ds},DatAs K h vs ds->DatAs K h vs.reverse ds.reverse
 | _,_,.nil=>.nil
 | _,_,.cons a b=>by rw [reverse_cons,reverse_cons];exact DatAs.append (DatAs.rev b) (.cons a .nil)
theorem WK :∀ z:List Nat,DatAs K h (z.map nV) (z.map fun n:Nat=>QF (n:Int))
 | []=>.nil
 | m::z=>.cons (.int _) (WK z)
theorem DatAs.pk {j:Nat}(D:DatAs K h vs ds)(h1:vs[j]?=some v)(h2:ds[j]?=some d):DatA K h v d:=by
 obtain ⟨e,z,r⟩:=D.at h1
 rw [h2] at z;cases z;exact r
theorem ZiS {i:Nat}(W:xs.length=es.length)(I:∀ d∈es,El i d)(z:i<=100):∃ v d,(XA xs lo hi++[V.int 0])[0]?=some v/\El i d/\∀ h,DatAs K h xs es->DatA K h v d:=by
 cases e:XA xs lo hi with
 | nil=>exact ⟨.int 0,.int 0,rfl,XE (Qx _) z,fun _ _=>.int 0⟩
 | cons u us =>
  have J:u∈xs:=mem_of_mem_drop (mem_of_mem_take (show u∈XA xs lo hi by rw [e];exact mem_cons_self ..))
  obtain ⟨j,B⟩:=Jw.mp J
  obtain ⟨d,G⟩:∃ d,es[j]?=some d:=⟨_,getElem?_eq_getElem (by have:=(Qj.mp B).1;omega)⟩
  exact ⟨u,d,rfl,I d (mem_of_getElem? G),fun h D=>DatAs.pk D B G⟩
theorem ZhJ {i:Nat}{b r:Int}(hi:i<=90)(I:b.natAbs<=20000+i)(J:r.natAbs<=20000)(h1:El i B):∀ k,k < 10->∃ o d,[V.int (b+1),.int (b - 1),.int r,.int b,.bl c,.non,.str "0",.ref t1,.ref l1,.int (-1)][k]?=some o/\El (i+1) d/\∀ h,DatA K h z B->h t1=some (.tup [z])->h l1=some (.lst [z])->DatA K h o d
 | 0,_=>⟨_,_,rfl,XE (by omega) (by omega),fun _ _ _ _=>.int _⟩
 | 1,_=>⟨_,_,rfl,XE (by omega) (by omega),fun _ _ _ _=>.int _⟩
 | 2,_=>⟨_,_,rfl,XE (by omega) (by omega),fun _ _ _ _=>.int _⟩
 | 3,_=>⟨_,_,rfl,XE (by omega) (by omega),fun _ _ _ _=>.int _⟩
 | 4,_=>⟨_,_,rfl,Zfy _ c,fun _ _ _ _=>.bl _⟩
 | 5,_=>⟨_,_,rfl,Zdt _,fun _ _ _ _=>.non⟩
 | 6,_=>⟨_,_,rfl,ZkG _,fun _ _ _ _=>.str _⟩
 | 7,_=>⟨_,_,rfl,h1.tup,fun _ D e1 _=>.tup (SqT.of e1) (by show 1<=20000;decide) (.cons D .nil)⟩
 | 8,_=>⟨_,_,rfl,h1.lst,fun _ D _ G=>.lst G (by show 1<=20000;decide) (.cons D .nil)⟩
 | 9,_=>⟨_,_,rfl,XE (i:=-1) (by omega) (by omega),fun _ _ _ _=>.int _⟩
 | k+10,h=>absurd h (by omega)
end
section
variable {P:Qk}{w:Qs}{K:Qa}{mg:Str->Option Qc}{base:Heap}
inductive ZjJ (K:Qa)(vs:List V)(H:Hp)(Q:VK)(w_3:XK):Prop
 | mk (p a:Addr) (n:Nat) (ms:List Nat) (most:Int) (Δ:Rs):vs=[.ref p,.ref a,.int most]->Sep ((p,Bx n)::(a,Wm (ms.map nV))::Δ) H->n<=900000->ms.length<=900->(∀ m∈ms,m<=10000)->0 < most->most<=10000->(∀ v d n' H',Ut d->n'<=n+20->Sep ((p,Bx n')::(a,Vr K v d)::(a,Wm (ms.map nV))::Δ) H'->Q v H')->ZjJ K vs H Q w_3
abbrev nBe:List Str:=["_law_box_here","_law_paper","_law_most","_law_row","_law_turn","_law_at","_law_way","_law_one","_law_base","_law_some","_law_other"]
abbrev Zjg:List Str:=["_law_box_here","_law_paper","_law_most"]
theorem scBe:Zo nBe Zjg (Zi s_l_bent):={}
theorem Zny (F:Fun K "_law_bent" "_law_bent" s_l_bent f fd)(T:Yj mg)(DT:DTk P w K mg base 1)(DIW:Def P w K mg base 1 "_law_is_whole" ZfP (VW K)):FnOk P w K mg base ZI 2 f fd Zjg (ZjJ K):=by
 refine F.ok scBe (fun cdv A outer s H vs Q E hr h=>?_)
 obtain ⟨p,a,n,ms,most,Δ,rfl,S,hn,hml,hms,hm0,hm1,q⟩:=h
 have hr1:=hr
 refine' ⟨?t,?h,?r⟩
 case h =>
  conv=>arg 2;whnf
  with_reducible refine' (Zf ?h1 (Zf (Wr ?h2 ?h3 ?h4 ?h5 (Zf ?h6 (Zf ?h7 (Zf ?h8 (Zf (Zs (i:=9) ?h10 ?h11 ?h12 (ZT ?h9) ?h13 ?h14) (Zf ?h15 (Zg (ZZ ?h16 (Zg ?h17) (Zg (ZZ ?h18 (Zg ?h19) (Zg (ZZ ?h20 (Zg ?h21) (Zg (ZZ ?h22 (Zg ?h23) (Zg (ZZ ?h24 (Zg ?h25) (Zg ?h26)))))))))))))))) ?h27) (Zg ?h28)))
  case h1=>exact Zs (i:=3) scBe.nd rfl (Qy rfl) (ZQ Xj rfl T.list (by decide +kernel) (Zb (pv 1) Za))
  case h2=>exact QU
  case h3=>exact rfl
  case h4=>exact YT rfl T.range (Zb (Zk Zt (ZT (Zb Zc (Zb Zc (Zb Zc (Zb Zc Za))))) (Zy DT hr1 (Zb (pv 0) (Zb Zc Za))) (fun _ _=>rfl)) Za)
  case h5=>exact ZW (i:=4) scBe.nd rfl (Qy rfl)
  case h6=>exact ZdP (i:=5) (j:=6) rfl scBe.nd rfl rfl (by decide) rfl rfl (Zb (Zy DT hr1 (Zb (pv 0) (Zb (Zp Yf (Zu ZH rfl T.len QC (Zb (pv 3) Za)) Zc) Za))) (Zb (Zy DT hr1 (Zb (pv 0) (Zb Zc Za))) Za)) rfl
  case h7=>exact Zs (i:=7) scBe.nd rfl (Qy rfl) (Zk Zt (Zp XT (Yc YB (pv 3) (ZR (pv 5)) (ZR (Zp Yf (pv 5) Zc))) (ZT (Zb Zc Za))) Zc (fun _ _=>rfl))
  case h8=>exact Zs (i:=8) scBe.nd rfl (Qy rfl) (XF (Xm (Zy DIW hr (Zb (pv 7) Za))) (pv 7) Zc)
  case h9=>(refine' YC ?a0 ?b0 ?c0;(case c0=>rfl);(case a0=>exact (Zp Yf (pv 8) Zc));(case b0=>(refine' YC ?a1 ?b1 ?c1;(case c1=>rfl);(case a1=>exact (Zp YN (pv 8) Zc));(case b1=>(refine' YC ?a2 ?b2 ?c2;(case c2=>rfl);(case a2=>exact (Zy DT hr1 (Zb (pv 0) (Zb (pv 2) Za))));(case b2=>(refine' YC ?a3 ?b3 ?c3;(case c3=>rfl);(case a3=>exact (pv 8));(case b3=>(refine' YC ?a4 ?b4 ?c4;(case c4=>rfl);(case a4=>exact (Yx ZY (pv 8) Zc (ZA _)));(case b4=>(refine' YC ?a5 ?b5 ?c5;(case c5=>rfl);(case a5=>exact XV);(case b5=>(refine' YC ?a6 ?b6 ?c6;(case c6=>rfl);(case a6=>exact ZM);(case b6=>(refine' YC ?a7 ?b7 ?c7;(case c7=>rfl);(case a7=>exact (Yt (Zb (pv 7) Za)));(case b7=>(refine' YC ?a8 ?b8 ?c8;(case c8=>rfl);(case a8=>exact (ZT (Zb (pv 7) Za)));(case b8=>(refine' YC ?a9 ?b9 ?c9;(case c9=>rfl);(case a9=>exact (WV Ww Zc));(case b9=>exact Za))))))))))))))))))))
  case h10=>exact scBe.nd
  case h11=>exact rfl
  case h12=>exact (Qy rfl)
  case h13=>exact rfl
  case h14=>exact (by first | exact .inl rfl | exact .inr rfl)
  case h15=>exact Zs (i:=10) scBe.nd rfl (Qy rfl) (Zk Zt (pv 9) (Zy DT hr1 (Zb (pv 0) (Zb Zc Za))) (fun _ _=>rfl))
  case h16=>exact ZG Us (pv 6) Zc (ZA _)
  case h17=>exact Zs (i:=3) scBe.nd rfl (Qy rfl) (Zp XT (Zp XT (Yc YB (pv 3) Yi (ZR (pv 5))) (ZT (Zb (pv 10) Za))) (Yc YB (pv 3) (ZR (Zp Yf (pv 5) Zc)) Yi))
  case h18=>exact ZG ZY (pv 6) Zc (ZA _)
  case h19=>exact Zs (i:=3) scBe.nd rfl (Qy rfl) (Zp XT (Yc YB (pv 3) Yi (ZR (pv 5))) (Yc YB (pv 3) (ZR (Zp Yf (pv 5) Zc)) Yi))
  case h20=>exact ZG ZY (pv 6) Zc (ZA _)
  case h21=>exact Zs (i:=3) scBe.nd rfl (Qy rfl) (Zp XT (Yc YB (pv 3) Yi (ZR (Zp Yf (pv 5) Zc))) (Yc YB (pv 3) (ZR (pv 5)) Yi))
  case h22=>exact ZG ZY (pv 6) Zc (ZA _)
  case h23=>exact Zs (i:=3) scBe.nd rfl (Qy rfl) (Zp XT (Zp XT (Yc YB (pv 3) Yi (ZR (pv 5))) (ZT (Zb (pv 10) Za))) (Yc YB (pv 3) (ZR (pv 5)) Yi))
  case h24=>exact ZG ZY (pv 6) Zc (ZA _)
  case h25=>exact XX (ZeW (Yc YB (pv 3) (ZR (pv 5)) (ZR (Zp Yf (pv 5) Zc)))) (Zlk (pv 3) (ZR (pv 5)) (ZR (Zp Yf (pv 5) Zc)))
  case h26=>exact Zs (i:=3) scBe.nd rfl (Qy rfl) (XF (ZG ZY (Zy DT hr1 (Zb (pv 0) (Zb Zc Za))) Zc (ZA _)) (ZeW (pv 3)) (Yc YB (pv 3) Yi (ZR (pv 5))))
  case h27=>exact fun _=>rfl
  case h28=>exact Zl (Zk Zt (ZT (Zb (ZQ Xx rfl T.tuple (by decide +kernel) (Zb (pv 3) Za)) (Zb (ZQ Xx rfl T.tuple (by decide +kernel) (Zb (pv 3) Za)) (Zb (ZQ Xx rfl T.tuple (by decide +kernel) (Zb (pv 3) Za)) (Zb (pv 3) Za))))) (Zy DT hr1 (Zb (pv 0) (Zb Zc Za))) (fun _ _=>rfl))
 try dsimp only [Yz,Cx.nox]
 refine zs3 ?_
 intro zD zS zN2 zN1
 obtain ⟨z,_⟩:∃ z:Addr,True:=⟨0,trivial⟩
 refine ⟨_,rfl,a,_,rfl,.inr (SqT.of (S.get a)),fun rw hrw=>?_⟩
 generalize I:upd H rw _=H1
 have S1:=S.newE hrw I
 clear I S
 have S1:Sep ((p,Bx n)::(rw,ZO (ms.map nV))::(z,Uz K (ms.map nV) (ms.map fun n:Nat=>QF (n:Int)))::(a,Wm (ms.map nV))::Δ) H1:=((ZjG (R:=Uz K (ms.map nV) (ms.map fun n:Nat=>QF (n:Int))) z S1 (WK ms)).pull rw).pull p
 refine ⟨(by show 4<=Qg;decide),fun l0 hl0=>?_⟩
 generalize I:upd H1 l0 _=H2
 have S2:=(S1.newE hl0 I).pull p
 clear I S1
 refine ⟨_,rfl,p,_,4,_,rfl,S2,by omega,by decide,by decide,fun r H3 a0 a1 S3=>?_⟩
 obtain ⟨c,hc,hc3⟩:∃ c:Nat,[V.int 1,.int 1,.int 2,.int 3][r.toNat]?=some (.int (c:Int))/\c<=3:=by
  have:r=0\/r=1\/r=2\/r=3:=by omega
  rcases this with rfl | rfl | rfl | rfl
  ·exact ⟨1,rfl,by decide⟩
  ·exact ⟨1,rfl,by decide⟩
  ·exact ⟨2,rfl,by decide⟩
  ·exact ⟨3,rfl,by decide⟩
 refine ⟨l0,_,_,_,rfl,rfl,SqL.of (S3.get l0),(by rw [show r=((r.toNat:Nat):Int) by omega];exact Zm hc),_,rfl,by omega,by omega,?_⟩
 rw [GM]
 have S3:=S3.drop l0
 refine WL (fun i σ H'=>∃ x4 x5 x6 x7 x8 x9 x10 rw xs es,∃ n':Nat,σ=[some (.ref p),some (.ref a),some (.int most),some (.ref rw),x4,x5,x6,x7,x8,x9,x10]/\es.length<=900+i/\(∀ d∈es,El i d)/\n'<=n+1+5 * i/\Sep ((p,Bx n')::(rw,ZO xs)::(z,Uz K xs es)::(a,Wm (ms.map nV))::Δ) H') ⟨_,_,_,_,_,_,_,rw,_,_,n+1,rfl,by rw [length_map];exact hml,?_,by omega,S3⟩ ?_ ?_
 ·intro d hd
  obtain ⟨m,hm,rfl⟩:=mem_map.mp hd
  exact XE (by have:=hms m hm;omega) (by decide)
 ·clear S2 S3
  rintro i σ H4 hi ⟨x4,x5,x6,x7,x8,x9,x10,rw,xs,es,n1,rfl,hel,he,hn1,S4⟩
  have hxl:xs.length=es.length:=(S4.get z).len
  refine zs6 ?_
  intro zD zS zN5 zN4 zN3 zN2 zN1
  refine ⟨_,rfl,_,rfl,rw,_,rfl,.inl (SqL.of (S4.get rw)),_,_,rfl,rfl,p,_,_,_,rfl,S4,by omega,by omega,by omega,fun r1 H5 b0 b1 S5=>?_⟩
  obtain ⟨B,rfl⟩:∃ y:Nat,r1=(y:Int):=⟨r1.toNat,by omega⟩
  refine ⟨_,rfl,p,_,9,_,rfl,S5,by omega,by decide,by decide,fun wy H6 c0 c1 S6=>⟨_,_,rfl,?_⟩⟩
  clear S4 S5
  obtain ⟨v1,d1,hv1,h1e,h1d⟩:=ZiS (K:=K) (lo:=some (B:Int)) (hi:=some ((B:Int)+1)) hxl he (by omega)
  refine ⟨_,rfl,_,rfl,_,rfl,_,rfl,_,_,rfl,rfl,_,rfl,rw,_,rfl,SqL.of (S6.get rw),fun c1' hc1=>⟨(by show 1<=Qg;decide),fun c2 hc2=>?_⟩⟩
  generalize I:upd H6 c1' _=H7 at hc2 ⊢
  have S7:=S6.newE hc1 I
  clear I
  generalize I:upd H7 c2 _=H8
  have S8:=S7.newE hc2 I
  clear I S7
  have hcl:=WG xs (some (B:Int)) (some ((B:Int)+1))
  refine ⟨c1',c2,_,_,rfl,rfl,S8.get c1',S8.get c2,Yw (show _<=2000 by show _+1<=2000;omega),fun c3 hc3'=>?_⟩
  generalize I:upd H8 c3 _=H9
  have S9:=S8.newE hc3' I
  clear I S8
  refine ⟨c3,_,_,v1,rfl,rfl,SqL.of (S9.get c3),Zm (j:=0) hv1,?_⟩
  have S9:=((S9.drop c3).drop c2).drop c1'
  clear S6 hc1 hc2 hc3'
  have rest:∀ b:Int,b.natAbs<=20000+i->zN3 [some (.ref p),some (.ref a),some (.int most),some (.ref rw),some (.int (0+(i:Int))),some (.int (B:Int)),some (.int wy),some v1,some (.int b),x9,x10] H9:=fun b hb=>by
   refine ⟨_,rfl,_,_,rfl,rfl,_,rfl,_,_,rfl,rfl,_,rfl,_,rfl,p,_,_,_,rfl,S9,by omega,hm0,by omega,fun r3 H10 e0 e1 S10=>?_⟩
   refine ⟨_,rfl,_,rfl,rfl,_,rfl,(by show 1<=Qg;decide),fun t1 ht1=>?_⟩
   have S11:=ZdV (R':=fun _ h=>DatAs K h xs es/\h t1=some (.tup [v1])) (S10.pull z) ht1 (o:=.tup [v1]) (fun h D s' e=>⟨DatAs.same s' D,e⟩)
   generalize upd H10 t1 (.tup [v1])=H11 at S11 ⊢
   refine ⟨_,rfl,(by show 1<=Qg;decide),fun l1 hl1=>?_⟩
   have S12:=ZdV (R':=EtR K xs es v1 d1 t1 l1) S11 hl1 (o:=.lst [v1]) (fun h D s' e=>⟨DatAs.same s' D.1,h1d _ (DatAs.same s' D.1),s' _ _ D.2,e⟩)
   generalize upd H11 l1 (.lst [v1])=H12 at S12 ⊢
   refine ⟨1,rfl,(by show 10<=Qg;decide),fun lS hlS=>?_⟩
   generalize I:upd H12 lS _=H13
   have S13:=(S12.newE hlS I).pull p
   clear I S10 S11 S12
   refine ⟨_,rfl,_,rfl,p,_,10,_,rfl,S13,by omega,by decide,by decide,fun r4 H14 f0 f1 S14=>?_⟩
   obtain ⟨o,d2,ho,h2e,h2d⟩:=ZhJ (K:=K) (b:=b) (r:=r3) (c:=decide (V.int b=V.int 1)) (t1:=t1) (l1:=l1) (by omega) hb (by omega) h1e r4.toNat (by omega)
   refine ⟨lS,_,_,o,rfl,rfl,SqL.of (S14.get lS),(by rw [show r4=((r4.toNat:Nat):Int) by omega];exact Zm ho),?_⟩
   have S15:Sep ((p,Bx (n1+1+1+1+1))::(rw,ZO xs)::(z,EoR K xs es o d2)::(a,Wm (ms.map nV))::Δ) H14:=(((S14.drop lS).say z (EoR K xs es o d2) (fun h D=>⟨D.1,h2d h D.2.1 D.2.2.1 D.2.2.2⟩)).pull rw).pull p
   clear S13 S14 S9 h2d ho
   have J:=S15.get rw
   have hEl:∀ d,(d∈es\/d=d2)->El (i+1) d:=fun d hd=>hd.elim (fun y=>(he d y).up (by omega)) (fun y=>by rw [y];exact h2e)
   have mv:∀ {Y:Addr} {H':Hp} {ys:List V} {es':List QM},Same H14 H'->H14 Y=none->H' Y=some (.lst ys)->(∀ h,EoR K xs es o d2 z h->DatAs K h ys es')->Sep ((p,Bx (n1+1+1+1+1))::(Y,ZO ys)::(z,Uz K ys es')::(a,Wm (ms.map nV))::Δ) H':=fun {Y H' ys es'} s' hc e f=>((((S15.drop rw).made s' hc e).say z (Uz K ys es') f).pull Y).pull p
   refine ⟨_,rfl,_,_,rfl,rfl,_,rfl,Xk (fun c=>?_) (fun c=>?_)⟩
   ·refine UC (UC (UD (K:=K) rfl J (fun H' R y=>⟨_,rfl,y⟩)) (ZgM (fun H' R y=>⟨_,rfl,y⟩)) ?_) (VP (K:=K) (j:=B+1) rfl J (fun H' R y=>⟨_,rfl,_,_,rfl,rfl,y⟩)) ?_ H14 _ (Same.refl _) fun Y H' s' W Z=>?_
    ·rw [length_take];show _+1<=_;omega
    ·rw [length_append,length_take,length_drop];show _+1+_<=_;omega
    refine ⟨_,_,_,_,_,_,_,Y,_,es.take B++[d2]++es.drop (B+1),_,rfl,?_,fun d hd=>hEl d ?_,?_,mv s' W Z (fun h D=>DatAs.append (DatAs.append (DatAs.take _ D.1) (.cons D.2 .nil)) (DatAs.drop _ D.1))⟩
    ·rw [length_append,length_append,length_take,length_drop];show _+1+_<=_;omega
    ·simp only [mem_append,mem_singleton] at hd
     rcases hd with (hd | hd) | hd
     ·exact .inl (mem_of_mem_take hd)
     ·exact .inr hd
     ·exact .inl (mem_of_mem_drop hd)
    ·omega
   refine ⟨_,rfl,rfl,_,rfl,Xk (fun c=>?_) (fun c=>?_)⟩
   ·refine UC (UD (K:=K) rfl J (fun H' R y=>⟨_,rfl,y⟩)) (VP (K:=K) (j:=B+1) rfl J (fun H' R y=>⟨_,rfl,_,_,rfl,rfl,y⟩)) ?_ H14 _ (Same.refl _) fun Y H' s' W Z=>?_
    ·rw [length_take,length_drop];omega
    refine ⟨_,_,_,_,_,_,_,Y,_,es.take B++es.drop (B+1),_,rfl,?_,fun d hd=>hEl d ?_,?_,mv s' W Z (fun h D=>DatAs.append (DatAs.take _ D.1) (DatAs.drop _ D.1))⟩
    ·rw [length_append,length_take,length_drop];omega
    ·exact (mem_append.mp hd).elim (fun y=>.inl (mem_of_mem_take y)) (fun y=>.inl (mem_of_mem_drop y))
    ·omega
   refine ⟨_,rfl,rfl,_,rfl,Xk (fun c=>?_) (fun c=>?_)⟩
   ·refine UC (UD (K:=K) (j:=B+1) rfl J (fun H' R y=>⟨_,rfl,_,_,rfl,rfl,y⟩)) (VP (K:=K) rfl J (fun H' R y=>⟨_,rfl,y⟩)) ?_ H14 _ (Same.refl _) fun Y H' s' W Z=>?_
    ·rw [length_take,length_drop];omega
    refine ⟨_,_,_,_,_,_,_,Y,_,es.take (B+1)++es.drop B,_,rfl,?_,fun d hd=>hEl d ?_,?_,mv s' W Z (fun h D=>DatAs.append (DatAs.take _ D.1) (DatAs.drop _ D.1))⟩
    ·rw [length_append,length_take,length_drop];omega
    ·exact (mem_append.mp hd).elim (fun y=>.inl (mem_of_mem_take y)) (fun y=>.inl (mem_of_mem_drop y))
    ·omega
   refine ⟨_,rfl,rfl,_,rfl,Xk (fun c=>?_) (fun c=>?_)⟩
   ·refine UC (UC (UD (K:=K) rfl J (fun H' R y=>⟨_,rfl,y⟩)) (ZgM (fun H' R y=>⟨_,rfl,y⟩)) ?_) (VP (K:=K) rfl J (fun H' R y=>⟨_,rfl,y⟩)) ?_ H14 _ (Same.refl _) fun Y H' s' W Z=>?_
    ·rw [length_take];show _+1<=_;omega
    ·rw [length_append,length_take,length_drop];show _+1+_<=_;omega
    refine ⟨_,_,_,_,_,_,_,Y,_,es.take B++[d2]++es.drop B,_,rfl,?_,fun d hd=>hEl d ?_,?_,mv s' W Z (fun h D=>DatAs.append (DatAs.append (DatAs.take _ D.1) (.cons D.2 .nil)) (DatAs.drop _ D.1))⟩
    ·rw [length_append,length_append,length_take,length_drop];show _+1+_<=_;omega
    ·simp only [mem_append,mem_singleton] at hd
     rcases hd with (hd | hd) | hd
     ·exact .inl (mem_of_mem_take hd)
     ·exact .inr hd
     ·exact .inl (mem_of_mem_drop hd)
    ·omega
   refine ⟨_,rfl,rfl,_,rfl,Xk (fun c=>?_) (fun c=>?_)⟩
   ·refine ⟨_,rfl,_,rfl,_,rfl,_,rfl,_,_,rfl,rfl,_,rfl,rw,_,rfl,SqL.of J,fun k1 hk1=>?_⟩
    generalize I:upd H14 k1 _=H15
    have S16:=S15.newE hk1 I
    clear I
    refine ⟨k1,_,rfl,SqL.of (S16.get k1),fun k2 hk2=>?_⟩
    have hne:rw≠k2:=fun y=>by rw [<- y,S16.get rw] at hk2;cases hk2
    generalize I:upd H15 k2 _=H16
    have S17:=S16.newE hk2 I
    clear I
    have hcl:=WG xs (some (B:Int)) (some ((B:Int)+2))
    refine ⟨_,rfl,_,rfl,_,rfl,_,rfl,_,_,rfl,rfl,_,rfl,rw,k2,xs,_,rfl,rfl,hne,S17.get rw,S17.get k2,Yw (show _<=4000 by rw [length_reverse];omega),?_⟩
    have S18:=((S17.drop k2).drop k1).put rw (.lst (xs.take (HT.sIx xs.length 0 (some (B:Int)))++(XA xs (some (B:Int)) (some ((B:Int)+2))).reverse++xs.drop (max (HT.sIx xs.length 0 (some (B:Int))) (HT.sIx xs.length xs.length (some ((B:Int)+2))))))
    unfold XA at S18 ⊢
    generalize HT.sIx xs.length 0 (some (B:Int))=x0,HT.sIx xs.length xs.length (some ((B:Int)+2))=x1 at S18 ⊢
    refine ⟨_,_,_,_,_,_,_,rw,_,es.take x0++((es.drop x0).take (x1 - x0)).reverse++es.drop (max x0 x1),_,rfl,?_,fun d hd=>hEl d ?_,?_,((S18.say z (Uz K _ _) (fun h D=>DatAs.append (DatAs.append (DatAs.take _ D.1) (DatAs.rev (DatAs.take _ (DatAs.drop _ D.1)))) (DatAs.drop _ D.1))).pull rw).pull p⟩
    ·simp only [length_append,length_take,length_drop,length_reverse];omega
    ·simp only [mem_append,List.mem_reverse] at hd
     rcases hd with (hd | hd) | hd
     ·exact .inl (mem_of_mem_take hd)
     ·exact .inl (mem_of_mem_drop (mem_of_mem_take hd))
     ·exact .inl (mem_of_mem_drop hd)
    ·omega
   ·refine ⟨_,rfl,p,_,2,_,rfl,S15,by omega,by decide,by decide,fun r5 H15 g0 g1 S16=>⟨rfl,_,rfl,Xk (fun c=>?_) (fun c=>?_)⟩⟩
    ·refine ⟨_,rfl,rw,_,rfl,SqL.of (S16.get rw),fun Y W=>?_⟩
     generalize I:upd H15 Y _=H16
     have S17:=S16.newE W I
     clear I
     exact ⟨_,_,_,_,_,_,_,Y,_,es.reverse,_,rfl,by rw [length_reverse];omega,fun d hd=>hEl d (.inl (List.mem_reverse.mp hd)),by omega,(((S17.drop rw).say z (Uz K _ _) (fun h D=>DatAs.rev D.1)).pull Y).pull p⟩
    ·refine UD (K:=K) rfl (S16.get rw) (fun H' R y=>⟨_,rfl,y⟩) H15 _ (Same.refl _) fun Y H' s' W Z=>?_
     exact ⟨_,_,_,_,_,_,_,Y,_,es.take B,_,rfl,by rw [length_take];omega,fun d hd=>hEl d (.inl (mem_of_mem_take hd)),by omega,((((S16.drop rw).made s' W Z).say z (Uz K _ _) (fun h D=>DatAs.take _ D.1)).pull Y).pull p⟩
  refine ⟨_,rfl,v1,d1,rfl,h1d _ (S9.get z),_,rfl,?_⟩
  cases hnb:Vf d1 with
  | false=>exact Zz (rest 0 (Qx _))
  | true =>
   obtain ⟨b,rfl⟩:∃ b,d1=.int b:=by cases d1<;>first | exact ⟨_,rfl⟩ | cases hnb
   have:=h1d _ (S9.get z)
   cases this
   exact ZF ⟨_,rfl,rest b (h1e.2 b rfl)⟩
 ·rintro σ H4 ⟨x4,x5,x6,x7,x8,x9,x10,rw,xs,es,n1,rfl,hel,he,hn1,S4⟩
  have hxl:xs.length=es.length:=(S4.get z).len
  refine ⟨_,rfl,rw,_,rfl,.inl ⟨SqL.of (S4.get rw),fun t1 ht1=>?_⟩⟩
  generalize I:upd H4 t1 _=H5
  have S5:=S4.newE ht1 I
  clear I
  refine ⟨_,rfl,rw,_,rfl,.inl ⟨SqL.of (S5.get rw),fun t2 ht2=>?_⟩⟩
  generalize I:upd H5 t2 _=H6
  have S6:=S5.newE ht2 I
  clear I
  refine ⟨_,rfl,rw,_,rfl,.inl ⟨SqL.of (S6.get rw),fun t3 ht3=>?_⟩⟩
  generalize I:upd H6 t3 _=H7
  have S7:=S6.newE ht3 I
  clear I
  refine ⟨_,rfl,(by show 4<=Qg;decide),fun lR hlR=>?_⟩
  generalize I:upd H7 lR _=H8
  have S8:=(S7.newE hlR I).pull p
  clear I S4 S5 S6 S7
  refine ⟨_,rfl,p,_,4,_,rfl,S8,by omega,by decide,by decide,fun r1 H9 b0 b1 S9=>?_⟩
  have he9:∀ d∈es,El 10 d:=fun d hd=>(he d hd).up (by omega)
  have tl:xs.length<=20000:=by omega
  have fin:∀ {v:V} {d:QM},Ut d->Sep ((p,Bx (n1+1))::(a,Vr K v d)::(a,Wm (ms.map nV))::Δ) H9->Q v H9:=fun h S=>q _ _ _ _ h (by omega) S
  have:r1=0\/r1=1\/r1=2\/r1=3:=by omega
  rcases this with rfl | rfl | rfl | rfl
  ·exact ⟨lR,_,_,.ref t1,rfl,rfl,SqL.of (S9.get lR),rfl,fin (Ui he9 (by omega)) ((Sep.pack (a:=a) (Γ:=[(t1,Wm xs),(z,Uz K xs es)]) (R:=Vr K (.ref t1) (.tuple es)) ((((((S9.drop lR).drop t3).drop t2).drop rw).pull z).pull t1) fun h G=>.tup (SqT.of (G.get t1)) tl (G.get z)).pull p)⟩
  ·exact ⟨lR,_,_,.ref t2,rfl,rfl,SqL.of (S9.get lR),rfl,fin (Ui he9 (by omega)) ((Sep.pack (a:=a) (Γ:=[(t2,Wm xs),(z,Uz K xs es)]) (R:=Vr K (.ref t2) (.tuple es)) ((((((S9.drop lR).drop t3).drop t1).drop rw).pull z).pull t2) fun h G=>.tup (SqT.of (G.get t2)) tl (G.get z)).pull p)⟩
  ·exact ⟨lR,_,_,.ref t3,rfl,rfl,SqL.of (S9.get lR),rfl,fin (Ui he9 (by omega)) ((Sep.pack (a:=a) (Γ:=[(t3,Wm xs),(z,Uz K xs es)]) (R:=Vr K (.ref t3) (.tuple es)) ((((((S9.drop lR).drop t2).drop t1).drop rw).pull z).pull t3) fun h G=>.tup (SqT.of (G.get t3)) tl (G.get z)).pull p)⟩
  ·exact ⟨lR,_,_,.ref rw,rfl,rfl,SqL.of (S9.get lR),rfl,fin (Zel he9 (by omega)) ((Sep.pack (a:=a) (Γ:=[(rw,ZO xs),(z,Uz K xs es)]) (R:=Vr K (.ref rw) (.list es)) ((((((S9.drop lR).drop t3).drop t2).drop t1).pull z).pull rw) fun h G=>.lst (G.get rw) tl (G.get z)).pull p)⟩
end
theorem Zfl (h:Sml d 300000 20):Ut (.tuple [d]):=.inr ⟨(VY (ds:=[d]) (n:=300000) (k:=20) fun e z=>by rw [mem_singleton.mp z];exact h).up (show 3+1 * (300000+2)<=Qg by decide) (by decide),fun _ e=>by cases e⟩
theorem ZhX (h:∀ d∈ds,El 10 d)(z:ds.length<=1000):Sml (.tuple ds) 300000 20:=(VY (n:=200) (k:=10) fun d B=>(h d B).1).up (Qo (show 3+ds.length * (200+2)<=3+1000 * 202 from GY (JF _ z) 3) (by decide)) (by decide)
theorem YV {Δ:Rs}{H:Hp}{R:Yv}(z:Addr)(S:Sep Δ H)(f:∀ h,(∀ b o,H b=some o->Yn o=false->h b=some o)->R z h):Sep ((z,R)::Δ) H:=by
 let B:Hp:=fun x=>match H x with
  | some o=>if Yn o=true then none else some o
  | none=>none
 have s0:∀ b o,B b=some o->H b=some o/\Yn o=false:=fun b o e=>by
  have e:(match H b with | some o=>if Yn o=true then none else some o | none=>none)=some o:=e
  split at e
  ·rename_i u J
   split at e
   ·cases e
   ·rename_i I;cases e;exact ⟨J,by cases G:Yn o with | true=>exact absurd G I | false=>rfl⟩
  ·cases e
 have k0:∀ b o,H b=some o->Yn o=false->B b=some o:=fun b o e m=>by
  show (match H b with | some o=>if Yn o=true then none else some o | none=>none)=some o
  rw [e];show (if Yn o=true then none else some o)=some o;rw [m];rfl
 refine ⟨B,fun b o e=>(s0 b o e).1,f B k0,S.mono fun b o e=>cut_some.mpr ⟨e,fun u W=>(s0 b u W).2⟩⟩
section
variable {P:Qk}{w:Qs}{K:Qa}{mg:Str->Option Qc}{base:Heap}
inductive ZjK (K:Qa)(vs:List V)(H:Hp)(Q:VK)(w_3:XK):Prop
 | mk (p a:Addr) (n:Nat) (ms:List Nat) (Δ:Rs):vs=[.ref p,.ref a]->Sep ((p,Bx n)::(a,Wm (ms.map nV))::Δ) H->n<=900000->ms.length<=900->(∀ m∈ms,m<=10000)->(∀ v d n' H',Ut d->n'<=n+20->Sep ((p,Bx n')::(a,Vr K v d)::(a,Wm (ms.map nV))::Δ) H'->Q v H')->ZjK K vs H Q w_3
abbrev nOd:List Str:=["_law_box_here","_law_paper","_law_some"]
abbrev Zjn:List Str:=["_law_box_here","_law_paper"]
theorem scOd:Zo nOd Zjn (Zi s_l_odd):={}
theorem ZnB (F:Fun K "_law_odd" "_law_odd" s_l_odd f fd)(T:Yj mg)(DT:DTk P w K mg base 1):FnOk P w K mg base ZI 2 f fd Zjn (ZjK K):=by
 refine F.ok scOd (fun cdv A outer s H vs Q E hr h=>?_)
 obtain ⟨p,a,n,Z,Δ,rfl,S,hn,hml,hms,q⟩:=h
 have hr1:=hr
 refine' ⟨?t,?h,?r⟩
 case h =>
  conv=>arg 2;whnf
  with_reducible refine' (Zf (Zs (i:=2) ?h2 ?h3 ?h4 (ZT ?h1) ?h5 ?h6) (Zg ?h7))
  case h1=>(refine' YC ?a0 ?b0 ?c0;(case c0=>rfl);(case a0=>exact XV);(case b0=>(refine' YC ?a1 ?b1 ?c1;(case c1=>rfl);(case a1=>exact Zc);(case b1=>(refine' YC ?a2 ?b2 ?c2;(case c2=>rfl);(case a2=>exact ZM);(case b2=>(refine' YC ?a3 ?b3 ?c3;(case c3=>rfl);(case a3=>exact ZM);(case b3=>(refine' YC ?a4 ?b4 ?c4;(case c4=>rfl);(case a4=>exact XY);(case b4=>(refine' YC ?a5 ?b5 ?c5;(case c5=>rfl);(case a5=>exact (Yt Za));(case b5=>(refine' YC ?a6 ?b6 ?c6;(case c6=>rfl);(case a6=>exact (ZT Za));(case b6=>(refine' YC ?a7 ?b7 ?c7;(case c7=>rfl);(case a7=>exact (Yt (Zb (Yt Za) Za)));(case b7=>(refine' YC ?a8 ?b8 ?c8;(case c8=>rfl);(case a8=>exact (ZQ Xj rfl T.list (by decide +kernel) (Zb (pv 1) Za)));(case b8=>(refine' YC ?a9 ?b9 ?c9;(case c9=>rfl);(case a9=>exact (Yt (Zb (pv 1) Za)));(case b9=>(refine' YC ?a10 ?b10 ?c10;(case c10=>rfl);(case a10=>exact (ZQ (Vx (K:=K) rfl hr.gd hr.units) rfl T.str (by decide +kernel) (Zb (pv 1) Za)));(case b10=>(refine' YC ?a11 ?b11 ?c11;(case c11=>rfl);(case a11=>exact (Yt (Zb XY Za)));(case b11=>(refine' YC ?a12 ?b12 ?c12;(case c12=>rfl);(case a12=>exact (Yt (Zb Zc (Zb XV Za))));(case b12=>(refine' YC ?a13 ?b13 ?c13;(case c13=>rfl);(case a13=>exact (WV Ww Zc));(case b13=>exact Za))))))))))))))))))))))))))))
  case h2=>exact scOd.nd
  case h3=>exact rfl
  case h4=>exact (Qy rfl)
  case h5=>exact rfl
  case h6=>exact (by first | exact .inl rfl | exact .inr rfl)
  case h7=>exact Zl (Zk Zt (pv 2) (Zy DT hr1 (Zb (pv 0) (Zb Zc Za))) (fun _ _=>rfl))
 try dsimp only [Yz,Cx.nox]
 refine zs2 ?_
 intro zD zS zN1
 refine ⟨(by show 0<=Qg;decide),fun t6 h6=>⟨(by show 0<=Qg;decide),fun l7 h7=>⟨(by show 0<=Qg;decide),fun ti hi=>⟨(by show 1<=Qg;decide),fun t8 h8=>?_⟩⟩⟩⟩
 generalize I:upd H t6 _=H1 at h7 hi h8 ⊢
 have S1:=S.newE h6 I
 clear I h6
 generalize I:upd H1 l7 _=H2 at hi h8 ⊢
 have S2:=S1.newE h7 I
 clear I h7
 generalize I:upd H2 ti _=H3 at h8 ⊢
 have S3:=S2.newE hi I
 clear I hi
 generalize I:upd H3 t8 _=H4
 have S4:=S3.newE h8 I
 clear I h8
 refine ⟨_,rfl,a,_,rfl,.inr (SqT.of (S4.get a)),fun l9 h9=>?_⟩
 generalize I:upd H4 l9 _=H5
 have S5:=S4.newE h9 I
 clear I h9
 refine ⟨_,rfl,(by show 1<=Qg;decide),fun tA hA=>?_⟩
 generalize I:upd H5 tA _=H6
 have S6:=S5.newE hA I
 clear I hA S S1 S2 S3 S4 S5
 have hms1:∀ d∈(Z.map fun n:Nat=>QF (n:Int)),El 10 d:=fun d hd=>by
  obtain ⟨m,hm,rfl⟩:=mem_map.mp hd
  exact XE (by have:=hms m hm;omega) (by decide)
 have hml1:(Z.map fun n:Nat=>QF (n:Int)).length<=900:=by rw [length_map];exact hml
 have thA:Ut (.tuple (Z.map fun n:Nat=>QF (n:Int))):=Ui hms1 (by omega)
 have dA:∀ {h:Hp},h a=some (.tup (Z.map nV))->DatA K h (.ref a) (.tuple (Z.map fun n:Nat=>QF (n:Int))):=fun e=>.tup (SqT.of e) (by rw [length_map];omega) (WK Z)
 refine ⟨_,rfl,_,_,rfl,dA (S6.get a),thA,(by show 1<=Qg;decide),fun tB hB=>⟨(by show 2<=Qg;decide),fun tC hC=>?_⟩⟩
 generalize I:upd H6 tB _=H7 at hC ⊢
 have S7:=S6.newE hB I
 clear I hB
 generalize I:upd H7 tC _=H8
 have S8:=S7.newE hC I
 clear I hC
 refine ⟨1,rfl,(by show 14<=Qg;decide),fun W hlS=>?_⟩
 generalize I:upd H8 W _=H9
 have S9:=(S8.newE hlS I).pull p
 clear I hlS S6 S7 S8
 refine ⟨_,rfl,_,rfl,p,_,14,_,rfl,S9,by omega,by decide,by decide,fun r H10 a0 a1 J=>?_⟩
 have S0:=((((((((J.drop W).drop tC).drop tB).drop tA).drop l9).drop t8).drop ti).drop l7).drop t6
 have B:∀ {v:V} {d:QM},Ut d->Sep ((a,Vr K v d)::(p,Bx (n+1))::(a,Wm (Z.map nV))::Δ) H10->Q v H10:=fun h S=>q _ _ _ _ h (by omega) (S.pull p)
 have eA:=J.get a
 have e6:=J.get t6
 have ei:=J.get ti
 have e8:=J.get t8
 have eAA:=J.get tA
 have eB:=J.get tB
 have eC:=J.get tC
 have Y:=J.get W
 have sm:∀ {d:QM},Sml d Qg 60->(∀ i,d=.int i->i.natAbs.log2 < 1920)->Ut d:=fun h g=>.inr ⟨h,g⟩
 have l1:(1:Nat)<=20000:=by decide
 have hr:r=0\/r=1\/r=2\/r=3\/r=4\/r=5\/r=6\/r=7\/r=8\/r=9\/r=10\/r=11\/r=12\/r=13:=by omega
 rcases hr with rfl | rfl | rfl | rfl | rfl | rfl | rfl | rfl | rfl | rfl | rfl | rfl | rfl | rfl
 ·exact ⟨W,_,_,_,rfl,rfl,SqL.of Y,rfl,B (d:=.none) (sm ((Zdt 0).1.up (by decide) (by decide)) (fun _ e=>by cases e)) (YV a S0 fun h k=>.non)⟩
 ·exact ⟨W,_,_,_,rfl,rfl,SqL.of Y,rfl,B (d:=.int 0) (sm ((XE (k:=0) (i:=0) (by decide) (by decide)).1.up (by decide) (by decide)) (fun _ e=>by cases e;decide)) (YV a S0 fun h k=>.int 0)⟩
 ·exact ⟨W,_,_,_,rfl,rfl,SqL.of Y,rfl,B (d:=.str "") (.inl ⟨_,rfl⟩) (YV a S0 fun h k=>.str _)⟩
 ·exact ⟨W,_,_,_,rfl,rfl,SqL.of Y,rfl,B (d:=.str "0") (.inl ⟨_,rfl⟩) (YV a S0 fun h k=>.str _)⟩
 ·exact ⟨W,_,_,_,rfl,rfl,SqL.of Y,rfl,B (d:=.bool true) (sm ((Zfy 0 true).1.up (by decide) (by decide)) (fun _ e=>by cases e)) (YV a S0 fun h k=>.bl _)⟩
 ·exact ⟨W,_,_,_,rfl,rfl,SqL.of Y,rfl,B (d:=.tuple []) (Ui (fun _ z=>nomatch z) (by decide)) (YV a S0 fun h k=>.tup (SqT.of (k _ _ e6 rfl)) (by decide) .nil)⟩
 ·exact ⟨W,_,_,_,rfl,rfl,SqL.of Y,rfl,B (d:=.list []) (Zel (fun _ z=>nomatch z) (by decide)) (Sep.pack (a:=a) (Γ:=[(l7,ZO [])]) (R:=Vr K (.ref l7) (.list [])) (((((((((J.drop W).drop tC).drop tB).drop tA).drop l9).drop t8).drop ti).drop t6).pull l7) fun h G=>.lst (G.get l7) (by decide) .nil)⟩
 ·exact ⟨W,_,_,_,rfl,rfl,SqL.of Y,rfl,B (d:=.tuple [.tuple []]) (Zfl (ZhX (fun _ z=>nomatch z) (by decide))) (YV a S0 fun h k=>.tup (SqT.of (k _ _ e8 rfl)) l1 (.cons (.tup (SqT.of (k _ _ ei rfl)) (by decide) .nil) .nil))⟩
 ·exact ⟨W,_,_,_,rfl,rfl,SqL.of Y,rfl,B (d:=.list (Z.map fun n:Nat=>QF (n:Int))) (Zel hms1 (by omega)) (Sep.pack (a:=a) (Γ:=[(l9,ZO (Z.map nV))]) (R:=Vr K (.ref l9) (.list (Z.map fun n:Nat=>QF (n:Int)))) (((((((((J.drop W).drop tC).drop tB).drop tA).drop l7).drop t8).drop ti).drop t6).pull l9) fun h G=>.lst (G.get l9) (by rw [length_map];omega) (WK Z))⟩
 ·exact ⟨W,_,_,_,rfl,rfl,SqL.of Y,rfl,B (d:=.tuple [.tuple (Z.map fun n:Nat=>QF (n:Int))]) (Zfl (ZhX hms1 (by omega))) (YV a S0 fun h k=>.tup (SqT.of (k _ _ eAA rfl)) l1 (.cons (dA (k _ _ eA rfl)) .nil))⟩
 ·exact ⟨W,_,_,_,rfl,rfl,SqL.of Y,rfl,B (.inl ⟨_,rfl⟩) (YV a S0 fun h k=>.str _)⟩
 ·exact ⟨W,_,_,_,rfl,rfl,SqL.of Y,rfl,B (d:=.tuple [.bool true]) (Ui (fun d hd=>by rw [mem_singleton.mp hd];exact Zfy _ _) (by decide)) (YV a S0 fun h k=>.tup (SqT.of (k _ _ eB rfl)) l1 (.cons (.bl _) .nil))⟩
 ·exact ⟨W,_,_,_,rfl,rfl,SqL.of Y,rfl,B (d:=.tuple [.int 0,.none]) (Ui (fun d hd=>by rcases mem_cons.mp hd with rfl | hd;exact XE (by decide) (by decide);rw [mem_singleton.mp hd];exact Zdt _) (by decide)) (YV a S0 fun h k=>.tup (SqT.of (k _ _ eC rfl)) (by decide) (.cons (.int _) (.cons .non .nil)))⟩
 ·exact ⟨W,_,_,_,rfl,rfl,SqL.of Y,rfl,B (d:=.int (-1)) (sm ((XE (k:=0) (i:=-1) (by decide) (by decide)).1.up (by decide) (by decide)) (fun _ e=>by cases e;decide)) (YV a S0 fun h k=>.int _)⟩
end
end K26
namespace L2
open PySem PySem.Spec PyProof.Rows
section
variable {X:Cx}
end
end L2
namespace K26
open PySem L2
theorem ZgA {r:Int}(z:0<=r)(h1:r < 26):YR a26.cps.toList r=some (97+r.toNat):=by
 have all:∀ k,k < 26->a26.cps.toList[k]?=some (97+k):=by decide +kernel
 exact ZaP z (all r.toNat (by omega))
def nmZ (stem:Str)(at' z:Int):Str:=Txt.slice stem none (some at')++(⟨#[97+(z / 26).toNat]⟩:Str)++(⟨#[97+(z % 26).toNat]⟩:Str)++Txt.slice stem (some at') none
theorem ZkM {G y z:Int}(h:nmZ B G y=nmZ B G z)(y0:0<=y)(Z:y < 676)(z0:0<=z)(z1:z < 676):y=z:=by
 have e:(nmZ B G y).cps.toList=(nmZ B G z).cps.toList:=by rw [h]
 unfold nmZ at e
 simp only [Vw,Jx] at e
 have J:=List.append_cancel_left e
 have I:=(Ss (show (97+(y / 26).toNat)::(97+(y % 26).toNat)::_=(97+(z / 26).toNat)::(97+(z % 26).toNat)::_ from J))
 have W:=(Ss I.2).1
 have Y:=I.1
 omega
inductive ZaE (vs:List V)(H:Hp)(Q:VK)(w_3:XK):Prop
 | mk (p:Addr) (n:Nat) (many:Int) (Δ:Rs):vs=[.ref p,.int many]->Sep ((p,Bx n)::Δ) H->n<=900000->0<=many->many<=100->(∀ (l:Addr) (H':Hp) (xs:List Str),Sep ((l,ZO (xs.map V.str))::(p,Bx (n+20))::Δ) H'->xs.length=many.toNat->(∀ x∈xs,Xw x/\2<=x.length)->(2<=many->∃ u v,u∈xs/\v∈xs/\u≠v)->Q (.ref l) H')->ZaE vs H Q w_3
section
variable {P:Qk}{w:Qs}{K:Qa}{mg:Str->Option Qc}{base:Heap}
abbrev nNm:List Str:=["_law_box_here","_law_many","_law_letters","_law_size","_law_stem","_law_first","_law_step_here","_law_at","_law_found","_law_k","_law_one","_law_other"]
abbrev Zjm:List Str:=["_law_box_here","_law_many"]
theorem scNm:Zo nNm Zjm (Zi s_l_names):={}
theorem ZiK (F:Fun K "_law_names" "_law_names" s_l_names f fd)(T:Yj mg)(DT:DTk P w K mg base 1):FnOk P w K mg base ZI 2 f fd Zjm ZaE:=by
 refine F.ok scNm (fun cdv A outer s H vs Q E hr h=>?_)
 obtain ⟨p,n,many,Δ,rfl,S,hn,h0,h1,q⟩:=h
 have W:=hr
 refine' ⟨?t,?h,?r⟩
 case h =>
  conv=>arg 2;whnf
  with_reducible refine' (Zf ?h1 (Zf ?h2 (Zf ?h3 (Zf ?h4 (Zf (Wr ?h5 ?h6 ?h7 ?h8 (Zf ?h9 (Zg ?h10)) ?h11) (Zg ?h12))))))
  case h1=>exact XX (Yt (Zb ZM (Zb (Zp Yf Zc (Zy DT W (Zb (pv 0) (Zb Zc Za)))) Za))) (WO rfl (Yp (ZW (i:=2) scNm.nd rfl (Pr rfl)) (Yp (ZW (i:=3) scNm.nd rfl (Qy rfl)) Wf)))
  case h2=>exact Zs (i:=4) scNm.nd rfl (Qy rfl) (Xs Jp RE RF ZeP ZM (Zb (We (CompOk.of nNm s_l_names rfl rfl (by decide +kernel)) rfl (YT rfl T.range (Zb (Zp YN (pv 3) Zc) Za))  (fun _ _ _ _ _=>Zk WM (pv 2) (Zy DT W (Zb (pv 0) (Zb Zc Za))) (fun _ _=>rfl))) Za))
  case h3=>exact Zlp (i:=5) (j:=6) (k:=7) rfl scNm.nd rfl rfl rfl (by decide) (by decide) (by decide) rfl rfl rfl (Zb (Zy DT W (Zb (pv 0) (Zb Zc Za))) (Zb (Zk Zt (ZT (Zb Zc (Zb Zc (Zb Zc (Zb Zc Za))))) (Zy DT W (Zb (pv 0) (Zb Zc Za))) (fun _ _=>rfl)) (Zb (Zy DT W (Zb (pv 0) (Zb (Zp YN (pv 3) Zc) Za))) Za))) rfl
  case h4=>exact Zs (i:=8) scNm.nd rfl (Qy rfl) (ZT Za)
  case h5=>exact QU
  case h6=>exact rfl
  case h7=>exact YT rfl T.range (Zb (pv 1) Za)
  case h8=>exact ZW (i:=9) scNm.nd rfl (Qy rfl)
  case h9=>exact XX (Zu Zet rfl T.divmod (by decide +kernel) (Zb (Zp XU (Zp Yf (pv 5) (Zp WN (pv 6) (pv 9))) Zc) (Zb Zc Za))) (WO rfl (Yp (ZW (i:=10) scNm.nd rfl (Qy rfl)) (Yp (ZW (i:=11) scNm.nd rfl (Qy rfl)) Wf)))
  case h10=>exact Yy (Xs QG QO QP YS (pv 8) (Zb (Zp Wq (Zp Wq (Zp Wq (Yc ZdW (pv 4) Yi (ZR (pv 7))) (Zk WM (pv 2) (pv 10) (fun _ _=>rfl))) (Zk WM (pv 2) (pv 11) (fun _ _=>rfl))) (Yc ZdW (pv 4) (ZR (pv 7)) Yi)) Za))
  case h11=>exact fun _=>rfl
  case h12=>exact Zl (pv 8)
 refine ⟨_,rfl,p,_,7,_,rfl,S,by omega,by decide,by decide,fun r1 H1 a0 a1 S1=>⟨_,_,rfl,rfl,(by show 2<=Qg;decide),fun t ht=>⟨t,_,rfl,SqT.of Zh,rfl,_,_,rfl,_,_,rfl,rfl,?_⟩⟩⟩
 generalize Y:upd H1 t _=H2
 have S2:=(S1.newE ht Y).tail
 clear Y
 refine ⟨rfl,_,rfl,_,_,rfl,rfl,_,rfl,by omega,by omega,fun D hD=>?_⟩
 have e1:(2+r1 - 2).toNat=r1.toNat:=by omega
 rw [e1]
 refine WF (Yw (show r1.toNat<=1000 by omega)) S2 hD (fun i ys Δ'=>∃ zs:List Str,ys=zs.map V.str/\(∀ z∈zs,∃ c,z=⟨#[c]⟩/\Ve c=true)/\Δ'=(p,Bx (n+1+i))::Δ) ⟨[],rfl,(fun _ h=>nomatch h),rfl⟩ ?_ ?_
 ·rintro i ys Δ' H' hi hl ⟨zs,rfl,hz,rfl⟩ S'
  refine ⟨_,rfl,_,rfl,p,_,26,_,rfl,S'.pull p,by omega,by decide,by decide,fun r3 H3 b0 b1 S3=>?_⟩
  obtain ⟨c,hc,hcl⟩:=WC (x:=a26) UA b0 (by rw [Xi];exact b1)
  refine ⟨a26,r3,c,rfl,rfl,by rw [Xi];decide,hc,_,⟨zs++[⟨#[c]⟩],by rw [map_append];rfl,?_,rfl⟩,S3.pull D⟩
  intro z hz'
  rcases mem_append.mp hz' with h | h
  ·exact hz z h
  ·rw [mem_singleton.mp h];exact ⟨c,rfl,hcl⟩
 rintro ys Δ' H3 ⟨zs,rfl,hz,rfl⟩ hl S3
 rw [length_map] at hl
 obtain ⟨g1,g2,g3⟩:=ZgT hz
 refine ⟨_,D,zs,rfl,rfl,SqL.of (S3.get D),by omega,?_⟩
 have S4:=S3.tail
 generalize Txt.join (Qn "") zs=B at *
 refine ⟨_,rfl,p,_,676,_,rfl,S4,by omega,by decide,by decide,fun r5 H5 b0 b1 S5=>⟨(by show 4<=Qg;decide),fun l hl4=>?_⟩⟩
 generalize Y:upd H5 l _=H6
 have S6:=S5.newE hl4 Y
 clear Y
 refine ⟨_,rfl,p,_,4,_,rfl,S6.pull p,by omega,by decide,by decide,fun r7 H7 c0 c1 S7=>?_⟩
 obtain ⟨sv,hsm,hsv⟩:=ZeM (xs:=[.int 1,.int 27,.int 5,.int 251]) c0 c1
 obtain ⟨G,rfl,hst⟩:∃ z:Int,sv=.int z/\1<=z/\z<=251:=by
  simp only [mem_cons,not_mem_nil,or_false] at hsm
  rcases hsm with rfl | rfl | rfl | rfl<;>exact ⟨_,rfl,by decide,by decide⟩
 refine ⟨l,_,_,_,rfl,rfl,SqL.of (S7.get l),hsv,?_⟩
 have S8:=S7.drop l
 refine ⟨_,rfl,_,rfl,_,_,rfl,rfl,p,_,_,_,rfl,S8,by omega,by omega,by omega,fun J H9 d0 d1 S10=>⟨_,_,_,rfl,?_⟩⟩
 refine ⟨(by show 0<=Qg;decide),fun fl hfl=>?_⟩
 generalize Y:upd H9 fl _=H11
 have S11:=S10.newE hfl Y
 clear Y
 refine ⟨_,rfl,many,rfl,by omega,by omega,?_⟩
 refine WL (fun i σ H'=>∃ x9 x10 x11 xs,σ=[some (.ref p),some (.int many),some (.str a26),some (.int (2+r1)),some (.str B),some (.int r5),some (.int G),some (.int J),some (.ref fl),x9,x10,x11]/\Sep ((fl,ZO (xs.map V.str))::(p,Bx (n+20))::Δ) H'/\xs.length=i/\(∀ x∈xs,Xw x/\2<=x.length)/\∀ j:Nat,j < i->xs[j]?=some (nmZ B J ((r5+G * (0+(j:Int))) % 676)))
  ⟨_,_,_,[],rfl,(S11.pull p).le (by omega) |>.pull fl,rfl,(fun _ h=>nomatch h),fun j h=>absurd h (by omega)⟩ ?_ ?_
 ·rintro i σ H' hi ⟨x9,x10,x11,xs,rfl,S',hxl,hxs,hxj⟩
  have hb:0<=G * (0+(i:Int)):=Int.mul_nonneg (by omega) (by omega)
  refine ⟨_,rfl,_,rfl,_,rfl,_,_,rfl,rfl,.inl ⟨by omega,by omega⟩,_,_,rfl,rfl,_,_,rfl,rfl,(by show (0:Int) < 676;decide),?_⟩
  obtain ⟨z,hz⟩:∃ z:Int,(r5+G * (0+(i:Int))) % 676=z:=⟨_,rfl⟩
  have hz0:0<=z:=by rw [<- hz];exact Gz _ (by decide)
  have hz1:z < 676:=by rw [<- hz];exact Gq _ (by decide)
  refine ⟨z,26,congrArg (fun y=>[V.int y,V.int 26]) hz,⟨by decide,by decide⟩,fun t2 ht2=>⟨t2,_,rfl,SqT.of Zh,rfl,_,_,rfl,_,_,rfl,rfl,?_⟩⟩
  generalize Y:upd H' t2 _=H12
  have S12:=(S'.newE ht2 Y).tail
  clear Y
  obtain ⟨Z,hc1,hcl1⟩:=WC (x:=a26) UA (r:=z / 26) (by omega) (by rw [Xi];omega)
  obtain ⟨I,hc2,hcl2⟩:=WC (x:=a26) UA (r:=z % 26) (by omega) (by rw [Xi];omega)
  have ec1:Z=97+(z / 26).toNat:=Qu (hc1.symm.trans (ZgA (by omega) (by omega)))
  have ec2:I=97+(z % 26).toNat:=Qu (hc2.symm.trans (ZgA (by omega) (by omega)))
  have enm:Txt.slice B none (some J)++(⟨#[Z]⟩:Str)++(⟨#[I]⟩:Str)++Txt.slice B (some J) none=nmZ B J z:=by rw [ec1,ec2];rfl
  have hsl:=ZhH (x:=B) d0 (by omega)
  refine ⟨_,rfl,.inl ⟨rfl,_,SqL.of (S12.get fl)⟩,_,rfl,_,rfl,J,rfl,B,rfl,Yw (show B.length<=1000 by omega),_,rfl,_,rfl,a26,_,Z,rfl,rfl,by rw [Xi];decide,hc1,_,_,rfl,rfl,Yw (show _<=1000 by rw [YU];omega),?_⟩
  refine ⟨_,rfl,_,rfl,a26,_,I,rfl,rfl,by rw [Xi];decide,hc2,_,_,rfl,rfl,Yw (show _<=1000 by rw [YI,YU,YU];omega),_,rfl,_,rfl,J,rfl,B,rfl,Yw (show B.length<=1000 by omega),_,_,rfl,rfl,Yw (show _<=1000 by rw [YI,YI,YU,YU];omega),?_⟩
  refine ⟨fl,_,_,rfl,rfl,S12.get fl,Xn (show _<=1000 by rw [length_map];omega),?_⟩
  have S13:=S12.put fl (.lst (xs.map V.str++[.str (Txt.slice B none (some J)++(⟨#[Z]⟩:Str)++(⟨#[I]⟩:Str)++Txt.slice B (some J) none)]))
  refine ⟨_,_,_,xs++[Txt.slice B none (some J)++(⟨#[Z]⟩:Str)++(⟨#[I]⟩:Str)++Txt.slice B (some J) none],rfl,by rw [map_append];exact S13,by simp [hxl],fun x hx=>?_,fun j hj=>?_⟩
  ·rcases mem_append.mp hx with h | h
   ·exact hxs x h
   ·rw [mem_singleton.mp h]
    refine ⟨⟨?_,?_,Uc (Uc (Uc (Vn g3) (Vg hcl1)) (Vg hcl2)) (Vn g3)⟩,?_⟩<;>(rw [YI,YI,YI,YU,YU];omega)
  ·rw [enm]
   by_cases hji:j < i
   ·rw [getElem?_append_left (by omega)];exact hxj j hji
   ·have:j=i:=by omega
    subst this
    rw [getElem?_append_right (by omega),hxl,Jn,hz];rfl
 ·rintro σ H' ⟨x9,x10,x11,xs,rfl,S',hxl,hxs,hxj⟩
  refine ⟨_,rfl,q fl H' xs S' hxl hxs fun h2=>?_⟩
  have g0:=hxj 0 (by omega)
  have g1':=hxj 1 (by omega)
  refine ⟨_,_,mem_of_getElem? g0,mem_of_getElem? g1',fun z=>?_⟩
  have:=ZkM z (Gz _ (by decide)) (Gq _ (by decide)) (Gz _ (by decide)) (Gq _ (by decide))
  have e0:G * (0+((0:Nat):Int))=0:=by simp
  have e1':G * (0+((1:Nat):Int))=G:=by simp
  rw [e0,e1'] at this
  omega
end
inductive ZbZ (vs:List V)(H:Hp)(Q:VK)(w_3:XK):Prop
 | mk (p:Addr) (n:Nat) (many:Int) (Δ:Rs):vs=[.ref p,.int many]->Sep ((p,Bx n)::Δ) H->n<=800000->1<=many->many<=40->(∀ (l:Addr) (H':Hp) (xs:List Str),Sep ((l,ZO (xs.map V.str))::(p,Bx (n+100))::Δ) H'->1<=xs.length->(xs.length:Int)<=many->xs.Nodup->(∀ x∈xs,Xw x)->(2<=many->2<=xs.length)->Q (.ref l) H')->ZbZ vs H Q w_3
theorem ZlD {G:Type}{l:List G}{u v:G}(B:u∈l)(z:v∈l)(h:u≠v):2<=l.length:=by
 match l,B,z with
 | [a],B,z=>exact absurd ((mem_singleton.mp B).trans (mem_singleton.mp z).symm) h
 | _::_::_,_,_=>simp only [length_cons];omega
section
variable {P:Qk}{w:Qs}{K:Qa}{mg:Str->Option Qc}{base:Heap}
abbrev nPo:List Str:=["_law_box_here","_law_many","_law_letters","_law_found","_law_name","_law_one","_law_other","_law_twin"]
abbrev Zjo:List Str:=["_law_box_here","_law_many"]
theorem scPo:Zo nPo Zjo (Zi s_l_pool):={}
theorem Zla (F:Fun K "_law_pool" "_law_pool" s_l_pool f fd)(T:Yj mg)(DT:DTk P w K mg base 1)(DN:Def P w K mg base 2 "_law_names" Zjm ZaE):FnOk P w K mg base ZI 3 f fd Zjo ZbZ:=by
 refine F.ok scPo (fun cdv A outer s H vs Q E hr h=>?_)
 obtain ⟨p,n,many,Δ,rfl,S,hn,h0,h1,q⟩:=h
 have hr1:=hr.mono (show 1<=2 by decide)
 refine' ⟨?t,?h,?r⟩
 case h =>
  conv=>arg 2;whnf
  with_reducible refine' (Zf ?h1 (Zf (Wr ?h2 ?h3 ?h4 ?h5 (Zf ?h6 (Zf ?h7 (Zg ?h8))) ?h9) (Zg ?h10)))
  case h1=>exact XX (Yt (Zb ZM (Zb (ZT Za) Za))) (WO rfl (Yp (ZW (i:=2) scPo.nd rfl (Qy rfl)) (Yp (ZW (i:=3) scPo.nd rfl (Pr rfl)) Wf)))
  case h2=>exact QU
  case h3=>exact rfl
  case h4=>exact ZbO (Zy DN hr (Zb (pv 0) (Zb (pv 1) Za)))
  case h5=>exact ZW (i:=4) scPo.nd rfl (Qy rfl)
  case h6=>exact ZdP (i:=5) (j:=6) rfl scPo.nd rfl rfl (by decide) rfl rfl (Zb (Zp Yf (Xs Jp Rk Rl ZdB (pv 2) (Zb (Zk WM (pv 4) Zc (fun _ _=>rfl)) Za)) Zc) (Zb (Zp YN (Xs Jp Rk Rl ZdB (pv 2) (Zb (Zk WM (pv 4) Zc (fun _ _=>rfl)) Za)) Zc) Za)) rfl
  case h7=>exact Zs (i:=7) scPo.nd rfl (Qy rfl) (Zp Wq (Zp Wq (Zk WM (pv 2) (Zp XU (pv 5) Zc) (fun _ _=>rfl)) (Zk WM (pv 2) (pv 6) (fun _ _=>rfl))) (Yc ZdW (pv 4) (ZR Zc) Yi))
  case h8=>exact Yy (Xs QG PySem.F.slot_list_extend PySem.F.type_list_extend Zhe (pv 3) (Zb (Zp XT (ZT (Zb (pv 4) Za)) (Zp ZmH (ZT (Zb (pv 7) Za)) (ZQ Zcn rfl T.int (by decide +kernel) (Zb (Xl (Yx Us (pv 5) Zc (ZA _)) (Xl (Yx Zki (pv 6) Zc (ZA _)) (XW (Yx ZY (Zy DT hr1 (Zb (pv 0) (Zb Zc Za))) Zc (ZA _))))) Za)))) Za))
  case h9=>exact fun _=>rfl
  case h10=>exact Zl (Yc YB (Zhp (xa:="_law_place") (xb:="_law_name") (CompOkT.of nPo s_l_pool rfl rfl (by decide +kernel)) rfl (Zjc rfl T.enumerate (pv 3)) (fun _ _ _ _ _=>Zll (K:=K) rfl rfl (ZW (i:=8) (show (hid2 nPo "_law_place" "_law_name"++(["_law_place","_law_name"]:List Str)).Nodup by decide +kernel) rfl (Qy rfl) (Pr rfl)) (ZW (i:=9) (show (hid2 nPo "_law_place" "_law_name"++(["_law_place","_law_name"]:List Str)).Nodup by decide +kernel) rfl (Qy rfl) (Pr rfl))) (fun _ _ _ _ _=>ZG (ZcL (K:=K) rfl) (pv 9) (Yc (ZjI (K:=K) rfl) (pv 3) Yi (ZR (pv 8))) rfl) (fun _ _ _ _ _=>pv 9)) Yi (ZR (pv 1)))
 refine ⟨(by show 0<=Qg;decide),fun B hfl=>⟨(by show 2<=Qg;decide),fun t ht=>⟨t,_,rfl,SqT.of Zh,rfl,_,_,rfl,_,_,rfl,rfl,?_⟩⟩⟩
 generalize I:upd (upd H B _) t _=H1
 have S1:=((S.new hfl _).newE ht I).tail
 clear I
 refine ⟨_,rfl,_,rfl,p,_,many,_,rfl,S1.pull p,by omega,by omega,by omega,fun l H2 xs S2 hxl hxs hx2=>?_⟩
 refine ⟨l,rfl,⟨_,SqL.of (S2.get l)⟩,Zdx (xs:=xs.map V.str) (fun j σ H'=>∃ x4 x5 x6 x7 fs,σ=[some (.ref p),some (.int many),some (.str a26),some (.ref B),x4,x5,x6,x7]/\Sep ((B,ZO (fs.map V.str))::(l,ZO (xs.map V.str))::(p,Bx (n+20+j))::Δ) H'/\fs.length<=2 * j/\(∀ y∈fs,Xw y)/\(∀ y∈xs.take j,y∈fs)/\j<=xs.length)
  ⟨_,_,_,_,[],rfl,(S2.pull l).pull B,Qf _,(fun _ h=>nomatch h),(fun y h=>by simp at h),Qx _⟩ ?_ ?_ ?_⟩
 ·rintro j σ H' _ ⟨_,_,_,_,fs,_,S',_⟩;exact SqL.of (S'.get l)
 ·rintro j x σ H3 J ⟨x4,x5,x6,x7,fs,rfl,S3,hfl2,hfs,hne,hj⟩
  have hjl:j < xs.length:=by have:=(Qj.mp J).1;rwa [length_map] at this
  obtain ⟨nm,hnm,rfl⟩:=mem_map.mp (mem_of_getElem? J)
  obtain ⟨⟨hn1,hn8,hnl⟩,hn2⟩:=hxs nm hnm
  obtain ⟨c0,hc0,hl0⟩:=WC (x:=nm) hnl (r:=0) (by decide) (by omega)
  obtain ⟨c1,hc1,hl1⟩:=WC (x:=nm) hnl (r:=1) (by decide) (by omega)
  obtain ⟨f0,f01,f02⟩:=ZgI hl0
  obtain ⟨f1,f11,f12⟩:=ZgI hl1
  obtain ⟨one,hone⟩:∃ z:Int,(c0:Int) - 97+2=z:=⟨_,rfl⟩
  obtain ⟨oth,hoth⟩:∃ z:Int,(c1:Int) - 97 - 1=z:=⟨_,rfl⟩
  refine ⟨_,rfl,rfl,_,rfl,nm,0,c0,rfl,rfl,Yw (show nm.length<=1000 by omega),hc0,a26,_,rfl,rfl,by omega,_,_,rfl,rfl,_,rfl,rfl,_,rfl,nm,1,c1,rfl,rfl,Yw (show nm.length<=1000 by omega),hc1,a26,_,rfl,rfl,by omega,_,_,rfl,rfl,.int one,.int oth,(by show [V.int (Txt.find a26 ⟨#[c0]⟩+2),V.int (Txt.find a26 ⟨#[c1]⟩ - 1)]=_;rw [f0,f1,hone,hoth]),?_⟩
  obtain ⟨d0,hd0,hdl0⟩:=WC (x:=a26) UA (r:=one % 26) (by omega) (by rw [Xi];omega)
  obtain ⟨d1,hd1,hdl1⟩:=ZjH (x:=a26) UA (r:=oth) (by rw [Xi];omega) (by rw [Xi];omega)
  have hsl:(Txt.slice nm (some 2) none).length+2=nm.length:=by
   rw [Ye,WH,Ye]
   have e3:HT.sIx nm.cps.toList.length 0 (some 2)=min 2 nm.cps.toList.length:=HT.sIx_nat _ _ 2
   have hh:2<=nm.cps.toList.length:=by rw [<- Ye];exact hn2
   rw [e3,HT.sIx_none,length_take,length_drop]
   omega
  refine ⟨_,rfl,_,rfl,_,_,rfl,rfl,(by show (0:Int) < 26;decide),a26,_,d0,rfl,rfl,by rw [Xi];decide,hd0,_,rfl,_,rfl,a26,oth,d1,rfl,rfl,by rw [Xi];decide,hd1,_,_,rfl,rfl,Yw (show _<=1000 by rw [YU,YU];decide),_,rfl,2,rfl,nm,rfl,Yw (show nm.length<=1000 by omega),_,_,rfl,rfl,Yw (show _<=1000 by rw [YI,YU,YU];omega),?_⟩
  generalize htw:(⟨#[d0]⟩:Str)++(⟨#[d1]⟩:Str)++Txt.slice nm (some 2) none=tw
  have htk:Xw tw:=by
   rw [<- htw]
   refine ⟨?_,?_,Uc (Uc (Vg hdl0) (Vg hdl1)) (Vn hnl)⟩<;>(rw [YI,YI,YU,YU];omega)
  refine ⟨_,rfl,.inl ⟨rfl,_,SqL.of (S3.get B)⟩,_,rfl,(by show 1<=Qg;decide),fun l1 hl1'=>⟨_,rfl,(by show 1<=Qg;decide),fun l2 hl2=>?_⟩⟩
  generalize I:upd (upd H3 l1 _) l2 _=H4
  have S4:=(S3.new hl1' _).newE hl2 I
  clear I
  refine ⟨_,rfl,_,_,rfl,rfl,_,rfl,Xk (fun c=>?w1) (fun c=>?w2)⟩
  case' w1=>refine ⟨_,rfl,_,_,rfl,rfl,_,rfl,Xk (fun c=>?w3) (fun c=>?w4)⟩
  case' w3 =>
   refine ⟨_,rfl,p,_,2,_,rfl,S4.pull p,by omega,by decide,by decide,fun r5 H5 b0 b1 W=>⟨rfl,?_⟩⟩
   obtain ⟨b,hb⟩:∃ b:Bool,decide (V.int r5=V.int 0)=b:=⟨_,rfl⟩
  case' w4 =>
   have W:=(S4.pull p).le (show n+20+j<=n+20+j+1 by omega)
   obtain ⟨b,hb⟩:∃ b:Bool,false=b:=⟨_,rfl⟩
  case' w2 =>
   have W:=(S4.pull p).le (show n+20+j<=n+20+j+1 by omega)
   obtain ⟨b,hb⟩:∃ b:Bool,false=b:=⟨_,rfl⟩
  all_goals
   refine .inr ⟨b,congrArg (fun z=>[V.bl z]) hb,?_⟩
   obtain ⟨k0,k1,k2⟩:=ZjC b tw
   refine ⟨l2,_,_,rfl,rfl,W.get l2,by omega,by omega,Yw (show _<=1000 by show 1 * _<=1000;omega),fun l3 hl3=>?_⟩
   generalize I:upd _ l3 _=H6
   have Z:=W.newE hl3 I
   clear I
   rw [k2] at Z
   have lb:(if b=true then [tw] else []).length<=1:=by cases b<;>simp
   refine ⟨l1,l3,_,_,rfl,rfl,Z.get l1,Z.get l3,Yw (show [V.str nm].length+((if b=true then [tw] else []).map V.str).length<=1000 by rw [length_map];show 1+_<=1000;omega),fun l4 hl4=>?_⟩
   generalize I:upd _ l4 _=H7
   have S7:=Z.newE hl4 I
   clear I
   refine ⟨B,l4,fs.map V.str,[V.str nm]++(if b=true then [tw] else []).map V.str,rfl,rfl,S7.get B,S7.get l4,Yw (show _<=1000 by rw [length_append,length_map,length_map];show _+(1+_)<=1000;omega),?_⟩
   have S8:=S7.put B (.lst (fs.map V.str++([.str nm]++(if b=true then [tw] else []).map V.str)))
   have e8:fs.map V.str++([.str nm]++(if b=true then [tw] else []).map V.str)=(fs++(nm::if b=true then [tw] else [])).map V.str:=by rw [map_append];rfl
   refine ⟨_,_,_,_,fs++(nm::if b=true then [tw] else []),rfl,?_,?_,fun y G=>?_,fun y G=>?_,hjl⟩
   ·rw [<- e8];exact ((((S8.drop l4).drop l3).drop l2).drop l1).pull p |>.pull l |>.pull B
   ·rw [length_append,length_cons];omega
   ·rcases mem_append.mp G with z | z
    ·exact hfs y z
    ·rcases mem_cons.mp z with z | z
     ·rw [z];exact ⟨hn1,hn8,hnl⟩
     ·cases b
      ·cases z
      ·rw [mem_singleton.mp z];exact htk
   ·rw [List.take_succ] at G
    have hxj:xs[j]?=some nm:=by
     rw [getElem?_map] at J
     cases e:xs[j]? with
     | none=>rw [e] at J;cases J
     | some w=>rw [e] at J;cases J;rfl
    rw [hxj] at G
    rcases mem_append.mp G with z | z
    ·exact PF _ (hne y z)
    ·rw [show y=nm from by simpa using z];exact mem_append_right _ mem_cons_self
 ·rintro σ H3 ⟨x4,x5,x6,x7,fs,rfl,S3,hfl2,hfs,hne,hj⟩
  rw [length_map] at S3 hfl2 hne
  have S4:=S3.drop l
  refine ⟨_,rfl,B,_,rfl,S4.get B,fun D hD=>?_⟩
  refine Zdn (K:=K) (a:=B) (xs:=fs.map V.str) (Yw (show _<=1000 by rw [length_map];omega)) S4 hD (fun i ys Δ'=>ys=(YF fs i).map V.str/\Δ'=(B,ZO (fs.map V.str))::(p,Bx (n+20+xs.length))::Δ) ⟨rfl,rfl⟩ ?_ ?_ ?_
  ·rintro i ys Δ' H' ⟨_,rfl⟩ S';exact SqL.of (S'.get B)
  ·rintro i x t' ys Δ' H' wa wb J hyl ⟨rfl,rfl⟩ S'
   obtain ⟨y,G,rfl⟩:∃ y,fs[i]?=some y/\V.str y=x:=by
    rw [getElem?_map] at J
    cases e:fs[i]? with
    | none=>rw [e] at J;cases J
    | some y=>rw [e] at J;exact ⟨y,rfl,Qu J⟩
   refine ⟨t',_,rfl,SqT.of (S'.get t'),rfl,_,_,rfl,_,_,rfl,rfl,⟨_,_,rfl⟩,?_⟩
   refine ⟨_,rfl,_,rfl,_,rfl,_,rfl,B,_,rfl,SqL.of (S'.get B),fun sl hsl=>?_⟩
   generalize I:upd _ sl _=H5
   have W:=S'.newE hsl I
   clear I
   rw [Zas,<- List.map_take] at W
   refine ⟨sl,_,rfl,.inl (SqL.of (W.get sl)),rfl,ZhN _,_,rfl,?_⟩
   rw [ZkI]
   have Z:=(W.drop sl).drop t'
   have ef:YF fs (i+1)=if y∈fs.take i then YF fs i else YF fs i++[y]:=by
    show (match fs[i]? with | some x=>if x∈fs.take i then YF fs i else YF fs i++[x] | none=>YF fs i)=_
    rw [G]
   by_cases hm:y∈fs.take i
   ·rw [decide_eq_true hm]
    rw [if_pos hm] at ef
    exact Zz ⟨_,⟨by rw [ef],rfl⟩,Z⟩
   ·rw [decide_eq_false hm]
    rw [if_neg hm] at ef
    exact ZF ⟨_,rfl,_,⟨by rw [ef,map_append];rfl,rfl⟩,Z⟩
  ·rintro ys Δ' H5 ⟨rfl,rfl⟩ hyl W
   rw [length_map] at W hyl
   refine ⟨_,rfl,many,rfl,D,_,rfl,SqL.of (W.get D),fun r hr'=>?_⟩
   generalize I:upd _ r _=H6
   have Z:=((W.newE hr' I).drop D).drop B
   clear I
   rw [show many=((many.toNat:Nat):Int) by omega,Zas,<- List.map_take] at Z
   have hin:∀ y∈xs,y∈fs:=fun y G=>hne y (by rw [take_of_length_le (Qf _)];exact G)
   have hfne:fs≠[]:=fun z=>by
    obtain ⟨y,G⟩:=TN xs (length_pos_iff.mp (by omega))
    have:=hin y G
    rw [z] at this;cases this
   have Y:fs.take fs.length=fs:=take_of_length_le (Qf _)
   have hf1:YF fs fs.length≠[]:=fun z=>by
    obtain ⟨y,G⟩:=TN _ hfne
    have:=(Xq (xs:=fs) fs.length (x:=y)).mpr (by rw [Y];exact G)
    rw [z] at this;cases this
   refine q r H6 _ ((Z.pull p).le (by omega) |>.pull r) ?_ ?_ (List.Sublist.nodup (OY _ _) (Uo _)) (fun y G=>hfs y ?_) fun h2=>?_
   ·rw [length_take];have:=length_pos_iff.mpr hf1;omega
   ·rw [length_take];omega
   ·have:=(Xq fs.length).mp (Zeu G)
    rw [Y] at this;exact this
   ·obtain ⟨u,v,hu,hv,huv⟩:=hx2 h2
    have m:∀ y∈xs,y∈YF fs fs.length:=fun y G=>(Xq (xs:=fs) fs.length (x:=y)).mpr (by rw [Y];exact hin y G)
    have:=ZlD (m u hu) (m v hv) huv
    rw [length_take];omega
end
section
variable {P:Qk}{w:Qs}{K:Qa}{mg:Str->Option Qc}{base:Heap}
abbrev nVs:List Str:=["_law_box_here"]
abbrev Zjv:List Str:=["_law_box_here"]
theorem scVs:Zo nVs Zjv (Zi s_l_values):={}
theorem Zhj (F:Fun K "_law_values" "_law_values" s_l_values f fd)(T:Yj mg)(DV:Def P w K mg base 2 "_law_value" ["_law_box_here"] Vp):FnOk P w K mg base ZI 3 f fd Zjv ZaF:=by
 refine F.ok scVs (fun cdv A outer s H vs Q E hr h=>?_)
 obtain ⟨p,n,Δ,rfl,S,hn,q⟩:=h
 refine' ⟨?t,?h,?r⟩
 case h =>
  conv=>arg 2;whnf
  with_reducible refine' (Zg ?h1)
  case h1=>exact Zl (Zp XT (We (CompOk.of nVs s_l_values rfl rfl (by decide +kernel)) rfl (YT rfl T.range (Zb Zc Za))  (fun _ _ _ _ _=>Zy DV hr (Zb (pv 0) Za))) (ZT (Zb Zc (Zb ZM Za))))
 refine ⟨3,rfl,by decide,by decide,fun D hD=>?_⟩
 refine WF (by decide) S hD (fun i ys B=>(∀ u∈ys,Xa u)/\B=(p,Bx (n+50 * i))::Δ) ⟨(fun _ h=>nomatch h),rfl⟩ ?_ ?_
 ·rintro i ys B H' hi hl ⟨I,rfl⟩ S'
  have hi3:i < 3:=hi
  refine ⟨_,rfl,p,_,_,rfl,S'.pull p,by omega,fun v H2 hv Z=>⟨_,⟨fun u Y=>?_,rfl⟩,(Z.le (by omega)).pull D⟩⟩
  rcases mem_append.mp Y with z | z
  ·exact I u z
  ·rw [mem_singleton.mp z];exact hv
 ·rintro ys B H2 ⟨I,rfl⟩ hl Z
  refine ⟨(by show 2<=Qg;decide),fun l1 W=>?_⟩
  generalize G:upd _ l1 _=H3
  have J:=Z.newE W G
  clear G
  have hl3:ys.length=3:=hl
  refine ⟨D,l1,_,_,rfl,rfl,J.get D,J.get l1,Yw (show ys.length+2<=1000 by omega),fun l2 hl2=>?_⟩
  generalize G:upd _ l2 _=H4
  have S4:=J.newE hl2 G
  clear G
  refine q l2 H4 _ ((((S4.drop l1).drop D).pull p).le (show n+50 * 3<=n+200 by omega) |>.pull l2) (by rw [length_append];show _+2=5;omega) fun u Y=>?_
  rcases mem_append.mp Y with z | z
  ·exact I u z
  ·have all:([.int 1,.str "1"]:List V).all Zbz=true:=by decide +kernel
   exact UZ (all_eq_true.mp all u z)
abbrev nSp:List Str:=["_law_box_here","_law_names_here","_law_values_here","_law_name"]
abbrev Zju:List Str:=["_law_box_here","_law_names_here","_law_values_here"]
theorem scSp:Zo nSp Zju (Zi s_l_step):={}
theorem Zle (F:Fun K "_law_step" "_law_step" s_l_step f fd)(T:Yj mg)(DT:DTk P w K mg base 1):FnOk P w K mg base ZI 2 f fd Zju Zee:=by
 refine F.ok scSp (fun cdv A outer s H vs Q E hr h=>?_)
 obtain ⟨p,G,B,n,NS,us,Δ,rfl,S,Y,W,hNl,hul,I,hn,q⟩:=h
 have z:=hr
 have l1:=length_pos_iff.mpr Y
 have l2:=length_pos_iff.mpr W
 refine' ⟨?t,?h,?r⟩
 case h =>
  conv=>arg 2;whnf
  with_reducible refine' (Zf ?h1 (Zf (ZZ ?h2 (Zg ?h3) ZS) (Zg ?h4)))
  case h1=>exact Zs (i:=3) scSp.nd rfl (Qy rfl) (Zk Zt (pv 1) (Zy DT z (Zb (pv 0) (Zb (Zu ZH rfl T.len QC (Zb (pv 1) Za)) Za))) (fun _ _=>rfl))
  case h2=>exact ZG ZY (Zy DT z (Zb (pv 0) (Zb Zc Za))) Zc (ZA _)
  case h3=>exact Zl (Yt (Zb ZM (Zb (pv 3) Za)))
  case h4=>exact Zl (Yt (Zb ZM (Zb (pv 3) (Zb (Zk Zt (pv 2) (Zy DT z (Zb (pv 0) (Zb (Zu ZH rfl T.len QC (Zb (pv 2) Za)) Za))) (fun _ _=>rfl)) Za))))
 refine ⟨_,rfl,_,rfl,_,rfl,G,_,rfl,.inl (SqL.of (S.get G)),p,_,_,_,rfl,S,by omega,(by rw [length_map];omega),(by rw [length_map];omega),fun r1 H1 a0 a1 S1=>?_⟩
 rw [length_map] at a1
 obtain ⟨x,hx,hat⟩:=Zbh (f:=V.str) a0 a1
 refine ⟨G,_,_,_,rfl,rfl,SqL.of (S1.get G),hat,?_⟩
 refine ⟨_,rfl,p,_,4,_,rfl,S1,by omega,by decide,by decide,fun r2 H2 b0 b1 Z=>⟨rfl,_,rfl,Xk (fun c=>?_) (fun c=>?_)⟩⟩
 ·refine ⟨_,rfl,(by show 2<=Qg;decide),fun t ht=>?_⟩
  exact q t _ (.clr x) hx ((Z.new ht (.tup [.str "clear",.str x])).pull p |>.le (show n+2<=n+3 by omega) |>.pull t)
 ·refine ⟨_,rfl,_,rfl,_,rfl,_,rfl,B,_,rfl,.inl (SqL.of (Z.get B)),p,_,_,_,rfl,Z,by omega,by omega,by omega,fun r3 H3 d0 d1 S3=>?_⟩
  obtain ⟨u,hu,J⟩:=ZeM (xs:=us) d0 d1
  refine ⟨B,_,_,_,rfl,rfl,SqL.of (S3.get B),J,(by show 3<=Qg;decide),fun t ht=>?_⟩
  exact q t _ (.set x u) ⟨hx,I u hu⟩ (S3.new ht (.tup [.str "set",.str x,u]))
abbrev nFr:List Str:=["_law_box_here","_law_stops","_law_way"]
abbrev Zjh:List Str:=["_law_box_here","_law_stops"]
theorem scFr:Zo nFr Zjh (Zi s_l_from):={}
theorem ZkQ (F:Fun K "_law_from" "_law_from" s_l_from f fd)(T:Yj mg)(Y:DTk P w K mg base 1):FnOk P w K mg base ZI 2 f fd Zjh ZdZ:=by
 refine F.ok scFr (fun cdv A outer s H vs Q E hr h=>?_)
 obtain ⟨p,G,n,k,R,Δ,rfl,S,W,hk1,hk2,hn,q⟩:=h
 have B:=hr
 refine' ⟨?t,?h,?r⟩
 case h =>
  conv=>arg 2;whnf
  with_reducible refine' (Zf ?h1 (Zf (ZZ ?h2 (Zg ?h3) ZS) (Zf (ZZ ?h4 (Zg ?h5) ZS) (Zg ?h6))))
  case h1=>exact Zs (i:=2) scFr.nd rfl (Qy rfl) (Zy Y B (Zb (pv 0) (Zb Zc Za)))
  case h2=>exact ZG Us (pv 2) Zc (ZA _)
  case h3=>exact Zl (Zp YN (Zu ZH rfl T.len QC (Zb (pv 1) Za)) Zc)
  case h4=>exact ZG ZY (pv 2) Zc (ZA _)
  case h5=>exact Zl (Zu (ZgB rfl) rfl T.max (by decide +kernel) (Zb Zc (Zb (Zp YN (Zp YN (Zu ZH rfl T.len QC (Zb (pv 1) Za)) Zc) (Zy Y B (Zb (pv 0) (Zb Zc Za)))) Za)))
  case h6=>exact Zl (Zy Y B (Zb (pv 0) (Zb (Zu ZH rfl T.len QC (Zb (pv 1) Za)) Za)))
 refine ⟨_,rfl,p,_,4,_,rfl,S,by omega,by decide,by decide,fun r1 H1 a0 a1 I=>⟨_,rfl,_,_,rfl,rfl,_,rfl,Xk (fun c=>?_) (fun c=>?_)⟩⟩
 ·obtain ⟨xs,ex,Z⟩:=I.isl G W
  refine ⟨_,rfl,G,_,rfl,.inl (SqL.of ex),_,_,rfl,rfl,?_⟩
  have:=q (k - 1) H1 (by omega) (I.le (by omega))
  rw [show ((k - 1:Nat):Int)=((xs.length:Nat):Int) - 1 by omega] at this
  exact this
 refine ⟨_,rfl,rfl,_,rfl,Xk (fun c=>?_) (fun c=>?_)⟩
 ·obtain ⟨xs,ex,Z⟩:=I.isl G W
  refine ⟨_,rfl,G,_,rfl,.inl (SqL.of ex),_,_,rfl,rfl,_,rfl,p,_,6,_,rfl,I,by omega,by decide,by decide,fun z H2 b0 b1 J=>⟨_,_,rfl,rfl,_,_,rfl,?_⟩⟩
  by_cases hc:(0:Int) < (xs.length:Int) - 1 - z
  ·rw [if_pos hc]
   have:=q ((xs.length:Int) - 1 - z).toNat H2 (by omega) (J.le (by omega))
   rw [show ((((xs.length:Int) - 1 - z).toNat:Nat):Int)=((xs.length:Nat):Int) - 1 - z by omega] at this
   exact this
  ·rw [if_neg hc];exact q 0 H2 (by omega) (J.le (by omega))
 ·obtain ⟨xs,ex,Z⟩:=I.isl G W
  refine ⟨_,rfl,_,rfl,G,_,rfl,.inl (SqL.of ex),p,_,_,_,rfl,I,by omega,by omega,by omega,fun z H2 b0 b1 J=>?_⟩
  have:=q z.toNat H2 (by omega) (J.le (by omega))
  rw [show ((z.toNat:Nat):Int)=z by omega] at this
  exact this
end
def mkB:Nat->Int
 | 0=>0
 | i+1=>mkB i+((i:Int)+1) * 26
theorem Zhd {l:List Nat}:∀ i,i<=l.length->l.all Ve=true->0<=Wz l i/\Wz l i<=mkB i
 | 0,_,_=>⟨Int.le_refl _,Int.le_refl _⟩
 | i+1,hi,ha=>by
  obtain ⟨I,h1⟩:=Zhd i (by omega) ha
  have z:i < l.length:=hi
  have B:=all_eq_true.mp ha _ (Gp z)
  have G:l.getD i 0=l[i]:=by rw [getD_eq_getElem?_getD,getElem?_eq_getElem z];rfl
  unfold Ve at B
  simp only [QI,decide_eq_true_eq] at B
  show 0<=Wz l i+((i:Int)+1) * (((l.getD i 0:Nat):Int) - 97+1)/\Wz l i+((i:Int)+1) * (((l.getD i 0:Nat):Int) - 97+1)<=mkB i+((i:Int)+1) * 26
  rw [G]
  have p0:(0:Int)<=((i:Int)+1) * (((l[i]:Nat):Int) - 97+1):=Int.mul_nonneg (by omega) (by omega)
  have p1:((i:Int)+1) * (((l[i]:Nat):Int) - 97+1)<=((i:Int)+1) * 26:=Int.mul_le_mul_of_nonneg_left (by omega) (by omega)
  omega
theorem Znx (W:NS.length<=50)(h:∀ x∈NS,Xw x):YE NS:=by
 have b:∀ x∈NS,0<=ZC x/\ZC x < 1024:=fun x z=>by
  obtain ⟨h1,G,J⟩:=h x z
  obtain ⟨I,Y⟩:=Zhd (l:=x.cps.toList) x.length (by rw [<- Ye];exact Qf _) J
  have B:∀ i,i<=8->mkB i < 1024:=by decide
  have:=B x.length G
  exact ⟨I,by show Wz _ _ < _;omega⟩
 exact ⟨by omega,fun x z=>by have:=(h x z).2.1;omega,fun x z=>(b x z).1,fun x z=>(b x z).2⟩
theorem ZnJ :RInv NS [] [.bare] [(QY 0,.bl true)]:=by
 refine ⟨fun k q e=>by simp at e,fun k F t e1 B=>?_⟩
 cases k with
 | zero =>
  cases (show some (fun _=>none)=some F from e1)
  cases (show some 0=some t from B)
  exact ⟨rfl,.inl (.inl ⟨rfl,rfl,fun _ _ _=>rfl⟩),fun x u z=>by cases z⟩
 | succ k=>simp [envs] at e1
def Zdd (NS:List Str)(pls:List ZE):Prop:=∀ q∈pls,q.st.ok NS
theorem Zgp (h:Zdd NS pls)(B:q.st.ok NS):Zdd NS (pls++[q]):=fun z G=>by
 rcases mem_append.mp G with y | y
 ·exact h z y
 ·rw [mem_singleton.mp y];exact B
theorem ZdE (h:Xw x):Xa (.str x):=by
 refine ⟨by have:=h.2.1;omega,all_eq_true.mpr fun c z=>?_⟩
 have:=all_eq_true.mp h.2.2 c z
 unfold Ve at this;unfold sgn
 simp only [QI,decide_eq_true_eq] at this ⊢
 omega
theorem ZhF [U:Up R](S:Sep ((a,R)::Δ) H)(e:H b=some o)(m:Yn o=false):Sep ((a,fun a h=>R a h/\h b=some o)::Δ) H:=by
 obtain ⟨h,l,r,S⟩:=S
 refine ⟨fun c=>match h c with | some u=>some u | none=>one b o c,fun c u z=>?_,⟨U.up r (fun c u z=>by simp only [z]),?_⟩,S.mono fun c u z=>?_⟩
 ·cases q:h c with
  | some v=>simp only [q] at z;cases z;exact l _ _ q
  | none=>simp only [q] at z;obtain ⟨rfl,rfl⟩:=one_some.mp z;exact e
 ·cases q:h b with
  | some v=>have:=l _ _ q;rw [e] at this;cases this;simp only [q]
  | none=>simp only [q];exact one_some.mpr ⟨rfl,rfl⟩
 ·obtain ⟨G,B⟩:=cut_some.mp z
  refine cut_some.mpr ⟨G,fun v y=>?_⟩
  cases q:h c with
  | some x=>simp only [q] at y;cases y;exact B _ q
  | none=>simp only [q] at y;obtain ⟨rfl,rfl⟩:=one_some.mp y;exact m
theorem ZlX {z:Type}{xs:List z}(h:xs≠[]):∃ x∈xs,YR xs (-1)=some x:=by
 have B:=length_pos_iff.mpr h
 refine ⟨xs[xs.length - 1],Gp _,?_⟩
 have hi:Wo xs.length (-1)=some (xs.length - 1):=by
  unfold Wo
  rw [if_neg (by decide),if_pos (by omega)]
  exact congrArg some (by omega)
 unfold YR
 rw [hi]
 exact getElem?_eq_getElem (by omega)
theorem ZkZ {NS z:List Str}{s:Stp}(h:s.ok NS)(sub:∀ x∈NS,x∈z):s.ok z:=by
 cases s with
 | set x v=>exact ⟨sub x h.1,h.2⟩
 | clr x=>exact sub x h
end K26
namespace L2
open PySem PySem.W PySem.Spec PyProof.Rows
section
variable {prog:Qk}{w:Qs}{A:QD}{E:Qc->Qe->Prop}{s:Qe}
end
section
variable {prog:Qk}{w:Qs}{A:QD}{R:Nv->Qe->Prop}
end
section
variable {prog:Qk}{w:Qs}{A:QD}{E:Qc->Qe->Prop}{s:Qe}
end
section
variable {X:Cx}
end
section
variable {X:Cx}
theorem ZiU:YW X (Ge .Is) (fun x y H Q=>∃ a b,x=.bl a/\y=.bl b/\Q (.bl (decide (a=b))) H):=by
 intro pins s σ H x y v u Q I B z h
 obtain ⟨a,b,rfl,rfl,q⟩:=h
 cases B;cases z
 have e:(decide (a=b))=(Jz a == Jz b):=by cases a<;>cases b<;>rfl
 exact Qh (ZP I q e)
end
section
variable {X:Cx}
end
end L2
namespace K26
open PySem L2
instance {pls:List ZE}:IsLst (StopL pls) (pls.length+1):=⟨fun ⟨as,e,hl,_⟩=>⟨_,e,by rw [length_map];exact hl⟩⟩
theorem Zke {x y:V}{A B:Prop}(h:x=y)(b:B):if (!decide (x=y))=true then A else B:=by rw [decide_eq_true h];exact b
section
variable {P:Qk}{w:Qs}{K:Qa}{mg:Str->Option Qc}{base:Heap}{CR CS Pl:Addr}
inductive ZjM (K:Qa)(CR CS:Addr)(vs:List V)(H:Hp)(Q:VK)(w_3:XK):Prop
 | mk (NS XS:List Str) (U:List V) (p r sl nl l2:Addr) (pls:List ZE) (nds:List Nd) (tabs:List (Zn×V)) (n:Nat) (Δ:Rs):vs=[.ref p,.ref r,.ref sl,.ref nl,.ref l2]->Sep ((p,Bx n)::(r,Wk K CR CS pls nds tabs)::(sl,StopL pls)::(nl,ZO (XS.map V.str))::(l2,ZO U)::Δ) H->n<=100000->WfP pls->(∀ q∈pls,q.st.ok NS)->pls.length<=100->(∀ y∈NS,Xw y)->NS.length<=50->(∀ y∈XS,Xw y)->1<=XS.length->XS.length<=100->(∀ u∈U,Xa u)->1<=U.length->U.length<=100->(∀ n' H',n'<=n+400->Sep ((p,Bx n')::(r,Wk K CR CS pls nds tabs)::(sl,StopL pls)::(nl,ZO (XS.map V.str))::(l2,ZO U)::Δ) H'->Q (.bl true) H')->ZjM K CR CS vs H Q w_3
abbrev nSR:List Str:=["_law_box_here","_law_roads","_law_stops","_law_names_here","_law_values_here","_law_place","_law_name","_law_good","_law_value_here","_law_turn","_law_thing","_law_told","_law_written","_law_says"]
abbrev Zjs:List Str:=["_law_box_here","_law_roads","_law_stops","_law_names_here","_law_values_here"]
theorem scSR:Zo nSR Zjs (Zi s_l_spoilt_right):={}
theorem ZnE (F:Fun K "_law_spoilt_right" "_law_spoilt_right" s_l_spoilt_right f fd)(T:Yj mg)(DT:DTk P w K mg base 1)(B:Def P w K mg base 12 "look_paper" ZfR (Zgk K CR CS))(z:Def P w K mg base 12 "shows_look" Zjr (ZjL K CR CS))(DAl:Def P w K mg base 12 "_law_all" Zjl Zge)(DBe:Def P w K mg base 12 "_law_bent" Zjg (ZjJ K))(DOd:Def P w K mg base 12 "_law_odd" Zjn (ZjK K))(DSh:Def P w K mg base 12 "_law_shown" Zjt (ZjN K)):FnOk P w K mg base ZI 13 f fd Zjs (ZjM K CR CS):=by
 refine F.ok scSR (fun cdv A outer s H vs Q E W h=>?_)
 obtain ⟨NS,XS,U,p,r,J,nl,l2,pls,nds,I,n,Δ,rfl,S,hn,hw,ok,hpl,hNS,hNl,hXS,hX1,hX2,hU,hU1,hU2,q⟩:=h
 have hr1:=W.mono (show 1<=12 by decide)
 refine' ⟨?t,?h,?r⟩
 case h =>
  conv=>arg 2;whnf
  with_reducible refine' (Zf ?h1 (Zf ?h2 (Zf ?h3 (Zf (Wr ?h4 ?h5 ?h6 ?h7 (Zlq ?h8 (Zf ?h9 (Zf ?h10 (Zf ?h11 (Zg (ZZ ?h12 (Zg ?h13) ZS)))))) ?h14) (Zg ?h15)))))
  case h1=>exact ZdP (i:=5) (j:=6) rfl scSR.nd rfl rfl (by decide) rfl rfl (Zb (Zy DT hr1 (Zb (pv 0) (Zb (Zu ZH rfl T.len QC (Zb (pv 2) Za)) Za))) (Zb (Zk Zt (pv 3) (Zy DT hr1 (Zb (pv 0) (Zb (Zu ZH rfl T.len QC (Zb (pv 3) Za)) Za))) (fun _ _=>rfl)) Za)) rfl
  case h2=>exact Zs (i:=7) scSR.nd rfl (Qy rfl) (Zy B W (Zb (pv 1) (Zb (pv 5) (Zb (pv 6) Za))))
  case h3=>exact Zs (i:=8) scSR.nd rfl (Qy rfl) (ZdN (VQ W) (Zy DAl W (Zb (pv 2) (Zb (pv 5) Za))) (pv 6) ⟨rfl,rfl,rfl,rfl⟩)
  case h4=>exact QU
  case h5=>exact rfl
  case h6=>exact YT rfl T.range (Zb Zc Za)
  case h7=>exact ZW (i:=9) scSR.nd rfl (Qy rfl)
  case h8=>exact Zs (i:=10) scSR.nd rfl (Qy rfl) (XF (ZG Us (pv 9) Zc (ZA _)) (Zy DBe W (Zb (pv 0) (Zb (pv 7) (Zb (Zu ZH rfl T.len QC (Zb (pv 2) Za)) Za)))) (Zy DOd W (Zb (pv 0) (Zb (pv 7) Za))))
  case h9=>exact Zs (i:=11) scSR.nd rfl (Qy rfl) (Zk Zt (ZT (Zb (pv 8) (Zb (pv 8) (Zb (Zk Zt (pv 4) (Zy DT hr1 (Zb (pv 0) (Zb (Zu ZH rfl T.len QC (Zb (pv 4) Za)) Za))) (fun _ _=>rfl)) (Zb XV Za))))) (Zy DT hr1 (Zb (pv 0) (Zb Zc Za))) (fun _ _=>rfl))
  case h10=>exact Zs (i:=12) scSR.nd rfl (Qy rfl) (ZQ (Vx (K:=K) rfl W.gd W.units) rfl T.str (by decide +kernel) (Zb (pv 10) Za))
  case h11=>exact Zs (i:=13) scSR.nd rfl (Qy rfl) (Zy z W (Zb (pv 1) (Zb (pv 5) (Zb (pv 6) (Zb (pv 11) (Zb (pv 10) Za))))))
  case h12=>exact PW.pt (Wt (Ws (Xm (Zu Wx rfl T.isinstance (by decide +kernel) (Zb (pv 13) (Zb (YZ rfl T.bool (by decide +kernel) (v:=.ty "bool") rfl) Za))))) (Wt (ZG Vh (pv 13) (Zy DSh W (Zb (pv 2) (Zb (pv 5) (Zb (pv 6) (Zb (pv 11) (Zb (pv 10) Za)))))) (ZA _)) (Wu (ZG Vh (ZQ (Vx (K:=K) rfl W.gd W.units) rfl T.str (by decide +kernel) (Zb (pv 10) Za)) (pv 12) (ZA _)))))
  case h13=>exact Zl XY
  case h14=>exact fun _=>rfl
  case h15=>exact Zl (Yx ZiU (Zy z W (Zb (pv 1) (Zb (pv 5) (Zb (pv 6) (Zb (pv 8) (Zb (pv 7) Za)))))) XY (ZA _))
 try dsimp only [Yz,Cx.nox]
 refine zs5 ?_
 intro zD zS zN4 zN3 zN2 zN1
 obtain ⟨ys,ey,hyl⟩:=S.isl J (inferInstance:IsLst (StopL pls) (pls.length+1))
 refine ⟨_,rfl,_,rfl,J,_,rfl,.inl (SqL.of ey),p,_,_,_,rfl,S,by omega,by omega,by omega,fun k1 H1 b0 b1 S1=>?_⟩
 obtain ⟨k,rfl⟩:∃ k:Nat,k1=(k:Int):=⟨k1.toNat,by omega⟩
 have hk:k<=pls.length:=by omega
 refine ⟨_,rfl,_,rfl,_,rfl,nl,_,rfl,.inl (SqL.of (S1.get nl)),p,_,_,_,rfl,S1,by omega,by rw [length_map];omega,by rw [length_map];omega,fun k2 H2 d0 d1 S2=>?_⟩
 rw [length_map] at d1
 obtain ⟨x,hx,hat⟩:=Zbh (f:=V.str) d0 d1
 refine ⟨nl,_,_,_,rfl,rfl,SqL.of (S2.get nl),hat,_,_,rfl,?_⟩
 have hnx:=hXS x hx
 refine ⟨_,rfl,_,rfl,_,rfl,r,pls,nds,I,k,x,rfl,S2.get r,hw,hk,by omega,fun t H3 s3 et=>?_⟩
 have plen:=Zcv pls x k
 have ple:∀ m∈paper pls x k,m<=10000:=fun m hm=>by have:=ZdL hw hk hm;omega
 have S3:=YV (R:=Wm ((paper pls x k).map nV)) t (S2.mono s3) (fun h g=>g _ _ et rfl)
 clear S S1 S2 s3 et
 refine ⟨_,rfl,_,rfl,J,pls,k,NS,_,rfl,(S3.pull J),hw,hk,by omega,ok,hNl,fun d H4 ps S4 hps hF=>?_⟩
 have ed:=S4.get d
 refine ⟨d,rfl,.inl ⟨_,.inl ed⟩,_,rfl,_,DGet.k (k:=QH x) ed,?_⟩
 have hval:(ZN (ps.map kP) (QH x)).getD .non=Ys pls x k:=by
  rw [<- Zio hw x k _ hk hF];rfl
 rw [hval]
 have hwP:=Zfn (x:=x) hw hk ok
 have Y:Sep ((p,Bx (n+1+1))::(t,Wm ((paper pls x k).map nV))::(r,Wk K CR CS pls nds I)::(J,StopL pls)::(nl,ZO (XS.map V.str))::(l2,ZO U)::Δ) H4:=(((S4.drop d).pull r).pull t).pull p
 clear S4 ed hval
 refine ⟨12,rfl,by decide,by decide,?_⟩
 refine WL (fun i σ H'=>∃ x9 x10 x11 Z x13,∃ n':Nat,σ=[some (.ref p),some (.ref r),some (.ref J),some (.ref nl),some (.ref l2),some (.int (k:Int)),some (.str x),some (.ref t),some (Ys pls x k),x9,x10,x11,Z,x13]/\n'<=n+2+22 * i/\Sep ((p,Bx n')::(t,Wm ((paper pls x k).map nV))::(r,Wk K CR CS pls nds I)::(J,StopL pls)::(nl,ZO (XS.map V.str))::(l2,ZO U)::Δ) H') ⟨_,_,_,_,_,n+2,rfl,by omega,Y⟩ ?_ ?_
 ·clear Y
  rintro i σ H5 hi ⟨x9,x10,x11,Z,x13,n1,rfl,hn1,Y⟩
  refine ⟨fun σ' H'=>∃ v d,∃ n2:Nat,σ'=[some (.ref p),some (.ref r),some (.ref J),some (.ref nl),some (.ref l2),some (.int (k:Int)),some (.str x),some (.ref t),some (Ys pls x k),some (.int (0+(i:Int))),some v,x11,Z,x13]/\Ut d/\n2<=n1+20/\Sep ((p,Bx n2)::(t,Vr K v d)::(t,Wm ((paper pls x k).map nV))::(r,Wk K CR CS pls nds I)::(J,StopL pls)::(nl,ZO (XS.map V.str))::(l2,ZO U)::Δ) H',?_,?_⟩
  ·refine ⟨_,rfl,_,_,rfl,rfl,_,rfl,Xk (fun c=>?_) (fun c=>?_)⟩
   ·obtain ⟨ys,ey,hyl⟩:=Y.isl J (inferInstance:IsLst (StopL pls) (pls.length+1))
    exact ⟨_,rfl,_,rfl,_,rfl,J,_,rfl,.inl (SqL.of ey),p,t,n1,paper pls x k,_,_,rfl,Y,by omega,by omega,ple,by omega,by omega,fun v d n2 H' hd hn2 S6=>⟨v,d,n2,rfl,hd,hn2,S6⟩⟩
   ·exact ⟨_,rfl,_,rfl,p,t,n1,paper pls x k,_,rfl,Y,by omega,by omega,ple,fun v d n2 H' hd hn2 S6=>⟨v,d,n2,rfl,hd,hn2,S6⟩⟩
  clear Y
  rintro σ H6 ⟨v,d,n2,rfl,hd,hn2,S6⟩
  refine zs4 ?_
  intro zD zS zN3 zN2 zN1
  refine ⟨_,rfl,_,rfl,_,rfl,_,rfl,_,rfl,l2,_,rfl,.inl (SqL.of (S6.get l2)),p,_,_,_,rfl,S6,by omega,by omega,by omega,fun r1 H7 a0 a1 S7=>?_⟩
  obtain ⟨u,hu,hatu⟩:=Zbh (f:=id) (xs:=U) a0 a1
  refine ⟨l2,_,_,u,rfl,rfl,SqL.of (S7.get l2),(by rw [List.map_id] at hatu;exact hatu),(by show 4<=Qg;decide),fun lt hlt=>?_⟩
  generalize hE:upd H7 lt _=H8
  have S8:=(S7.newE hlt hE).pull p
  clear hE S6 S7
  refine ⟨_,rfl,p,_,4,_,rfl,S8,by omega,by decide,by decide,fun r2 H9 c0 c1 S9=>?_⟩
  obtain ⟨G,htold,hP⟩:∃ G,[Ys pls x k,Ys pls x k,u,V.non][r2.toNat]?=some G/\NvP G:=by
   have:r2=0\/r2=1\/r2=2\/r2=3:=by omega
   rcases this with rfl | rfl | rfl | rfl
   ·exact ⟨_,rfl,hwP⟩
   ·exact ⟨_,rfl,hwP⟩
   ·exact ⟨_,rfl,ZfK (.inr (hU u hu))⟩
   ·exact ⟨_,rfl,.inl rfl⟩
  refine ⟨lt,_,_,G,rfl,rfl,SqL.of (S9.get lt),(by rw [show r2=((r2.toNat:Nat):Int) by omega];exact Zm htold),?_⟩
  have S10:=S9.drop lt
  clear S8 S9
  have dv:DatA K H9 v d:=S10.get t
  refine ⟨_,rfl,v,d,rfl,dv,hd,?_⟩
  refine ⟨_,rfl,_,rfl,_,rfl,_,rfl,_,rfl,NS,r,v,pls,nds,I,k,x,G,d,rfl,S10.get r,hw,ok,hk,by omega,hP,dv,fun b1 H10 hb1 s1=>?_⟩
  refine ⟨_,rfl,_,_,_,_,rfl,.bl _,rfl,_,rfl,Zz ⟨_,rfl,_,rfl,_,rfl,_,rfl,_,rfl,_,rfl,J,pls,k,x,G,v,d,NS,hnx,hNS,rfl,(S10.mono s1).get J,hw,ok,hk,by omega,hP,dv.same s1,fun b2 H11 hb2 s2=>⟨rfl,_,rfl,?_⟩⟩⟩
  have hbb:b1=b2:=Jq.mpr (hb1.trans hb2.symm)
  refine Zke (congrArg V.bl hbb) ⟨_,rfl,v,d,rfl,dv.same (s1.trans s2),hd,_,rfl,rfl,_,rfl,Zke rfl ?_⟩
  exact ⟨_,_,_,_,_,n2+1+1,rfl,by omega,(S10.mono (s1.trans s2)).drop t⟩
 ·clear Y
  rintro σ H5 ⟨x9,x10,x11,Z,x13,n1,rfl,hn1,Y⟩
  have et:=Y.get t
  have htp:tpN (paper pls x k)=.tuple ((paper pls x k).map fun n:Nat=>QF (n:Int)):=by unfold tpN;rw [map_map];rfl
  have dg:DatA K H5 (.ref t) (tpN (paper pls x k)):=by rw [htp];exact .tup (SqT.of et) (by rw [length_map];omega) (WK _)
  refine ⟨_,rfl,_,rfl,_,rfl,_,rfl,_,rfl,NS,r,.ref t,pls,nds,I,k,x,Ys pls x k,tpN (paper pls x k),rfl,Y.get r,hw,ok,hk,by omega,hwP,dg,fun b H6 hb s6=>⟨_,_,rfl,rfl,?_⟩⟩
  rw [hb.mpr ⟨rfl,rfl⟩]
  exact q n1 H6 (by omega) ((Y.mono s6).drop t)
end
section
variable {P:Qk}{w:Qs}{K:Qa}{mg:Str->Option Qc}{base:Heap}{CR CS Pl:Addr}
inductive Zca (Pl:Addr)(vs:List V)(H:Hp)(Q:VK)(w_3:XK):Prop
 | mk (p:Addr) (Δ:Rs):vs=[.ref p]->Sep ((p,Bx 0)::(Pl,Xo)::Δ) H->(∀ H',Sep ((Pl,Xo)::Δ) H'->Q (.bl true) H')->Zca Pl vs H Q w_3
abbrev nRi:List Str:=["_law_box_here","_law_names_here","_law_values_here","_law_roads","_law_stops","_law_turn"]
abbrev Zjp:List Str:=["_law_box_here"]
theorem scRi:Zo nRi Zjp (Zi s_l_right):={}
theorem ZiN (F:Fun K "_law_right" "_law_right" s_l_right f fd)(T:Yj mg)(TR:XO K CR)(DT:DTk P w K mg base 1)(DP:Def P w K mg base 13 "_law_pool" Zjo ZbZ)(DVs:Def P w K mg base 13 "_law_values" Zjv ZaF)(DRd:Zfp P w K mg base 12 CR "Roads" ZfT (ZbX K CR CS))(DFr:Def P w K mg base 13 "_law_from" Zjh ZdZ)(DSt:Def P w K mg base 13 "_law_step" Zju Zee)(DGr:Def P w K mg base 13 "_law_grown" Zji (ZbW K CR CS Pl))(DSR:Def P w K mg base 13 "_law_spoilt_right" Zjs (ZjM K CR CS)):FnOk P w K mg base ZI 14 f fd Zjp (Zca Pl):=by
 refine F.ok scRi (fun cdv A outer s H vs Q E hr h=>?_)
 obtain ⟨p,Δ,rfl,S,q⟩:=h
 have hr1:=hr.mono (show 1<=13 by decide)
 refine' ⟨?t,?h,?r⟩
 case h =>
  conv=>arg 2;whnf
  with_reducible refine' (Zf ?h1 (Zf ?h2 (Zf ?h3 (Zf (Wr ?h4 ?h5 ?h6 ?h7 (Zg (ZZ ?h8 (Zg ?h9) ZS)) ?h10) (Zg ?h11)))))
  case h1=>exact XX (Yt (Zb (Zy DP hr (Zb (pv 0) (Zb (Zp Yf Zc (Zy DT hr1 (Zb (pv 0) (Zb Zc Za)))) Za))) (Zb (Zy DVs hr (Zb (pv 0) Za)) Za))) (WO rfl (Yp (ZW (i:=1) scRi.nd rfl (Pr rfl)) (Yp (ZW (i:=2) scRi.nd rfl (Pr rfl)) Wf)))
  case h2=>exact Zs (i:=2) scRi.nd rfl (Pr rfl) (Zp XT (pv 2) (ZT (Zb (Zk Zt (pv 1) Zc (fun _ _=>rfl)) (Zb (Zk Zt (pv 1) (WV Ww Zc) (fun _ _=>rfl)) (Zb ZM (Zb ZM Za))))))
  case h3=>exact XX (Yt (Zb (Zkl DRd hr) (Zb (ZT (Zb (Yt (Zb XV (Zb XV Za))) Za)) Za))) (WO rfl (Yp (ZW (i:=3) scRi.nd rfl (Pr rfl)) (Yp (ZW (i:=4) scRi.nd rfl (Pr rfl)) Wf)))
  case h4=>exact QU
  case h5=>exact rfl
  case h6=>exact YT rfl T.range (Zb (Zy DT hr1 (Zb (pv 0) (Zb Zc Za))) Za)
  case h7=>exact ZW (i:=5) scRi.nd rfl (Qy rfl)
  case h8=>exact Ws (Xm (Zy DGr hr (Zb (pv 3) (Zb (pv 4) (Zb (Zy DFr hr (Zb (pv 0) (Zb (pv 4) Za))) (Zb (Zy DSt hr (Zb (pv 0) (Zb (Yc YB (pv 1) (ZR Zc) Yi) (Zb (pv 2) Za)))) Za))))))
  case h9=>exact Zl XY
  case h10=>exact fun _=>rfl
  case h11=>exact Zl (Zu (UT rfl) rfl T.all (by decide +kernel) (Zb (We (CompOk.of nRi s_l_right rfl rfl (by decide +kernel)) rfl (YT rfl T.range (Zb Zc Za))  (fun _ _ _ _ _=>Zy DSR hr (Zb (pv 0) (Zb (pv 3) (Zb (pv 4) (Zb (pv 1) (Zb (pv 2) Za))))))) Za))
 try dsimp only [Yz,Cx.nox]
 refine zs5 ?_
 intro zD zS zN4 zN3 zN2 zN1
 refine ⟨_,rfl,_,rfl,p,0,5,_,rfl,S,by decide,by decide,by decide,fun r1 H1 a0 a1 S1=>⟨_,_,rfl,rfl,p,_,_,_,rfl,S1,by omega,by omega,by omega,fun J H2 xs S2 hx1 hx2 hnd Y h2=>?_⟩⟩
 refine ⟨_,rfl,p,_,_,rfl,S2.pull p,by omega,fun vl H3 us S3' hul huv=>⟨(by show 2<=Qg;decide),fun t5 ht5=>?_⟩⟩
 generalize W:upd H3 t5 _=H3b
 have S3b:=S3'.newE ht5 W
 clear W
 refine ⟨t5,_,rfl,SqT.of (S3b.get t5),rfl,_,_,rfl,_,_,rfl,rfl,?_⟩
 have S3:=S3b.drop t5
 have hxn:xs≠[]:=length_pos_iff.mp (by omega)
 have hx22:2<=xs.length:=h2 (by omega)
 have N:YE xs:=Znx (by omega) Y
 obtain ⟨z0,hz0,at0⟩:=Zbh (f:=V.str) (xs:=xs) (r:=0) (by decide) (by omega)
 obtain ⟨v9,hv9,at9⟩:=ZlX (xs:=xs.map V.str) (fun z=>hxn (List.map_eq_nil_iff.mp z))
 obtain ⟨z9,hz9,rfl⟩:=mem_map.mp hv9
 refine ⟨_,rfl,_,rfl,J,_,_,_,rfl,rfl,SqL.of (S3.get J),at0,_,rfl,_,rfl,J,_,_,_,rfl,rfl,SqL.of (S3.get J),at9,(by show 4<=Qg;decide),fun l1 hl1=>?_⟩
 generalize W:upd H3b l1 _=H4
 have S4:=S3.newE hl1 W
 clear W
 refine ⟨vl,l1,_,_,rfl,rfl,S4.get vl,S4.get l1,Yw (show us.length+4<=1000 by omega),fun l2 hl2=>?_⟩
 generalize W:upd H4 l2 _=H5
 have S5:=(((S4.newE hl2 W).drop l1).drop vl)
 clear W
 have hUv:∀ u∈us++[V.str z0,V.str z9,V.str "set",V.str "clear"],Xa u:=fun u hu=>by
  rcases mem_append.mp hu with y | y
  ·exact huv u y
  ·rcases mem_cons.mp y with rfl | y
   ·exact ZdE (Y _ hz0)
   rcases mem_cons.mp y with rfl | y
   ·exact ZdE (Y _ hz9)
   ·have all:([.str "set",.str "clear"]:List V).all Zbz=true:=by decide +kernel
    exact UZ (all_eq_true.mp all u y)
 have hUl:(us++[V.str z0,V.str z9,V.str "set",V.str "clear"]).length=9:=by rw [length_append,hul];rfl
 generalize hU:us++[V.str z0,V.str z9,V.str "set",V.str "clear"]=U at *
 intro r dx hrr hdx hne
 refine ⟨r,dx,_,_,rfl,rfl,hrr,hdx,hne,S5,fun H6 S6=>⟨rfl,(by show 2<=Qg;decide),fun t0 ht0=>⟨(by show 1<=Qg;decide),fun G hsl=>⟨(by show 2<=Qg;decide),fun tt htt=>⟨tt,_,rfl,SqT.of Zh,rfl,_,_,rfl,_,_,rfl,rfl,?_⟩⟩⟩⟩⟩
 generalize W:upd (upd (upd H6 t0 _) G _) tt _=H7
 have S7:=(((S6.new ht0 _).new hsl _).newE htt W).tail
 clear W
 have S8:=((ZhF S7 (S7.get t0) rfl).say G (StopL []) fun h ⟨z1,z2⟩=>⟨[t0],z1,rfl,fun a e=>by cases (show some t0=some a from e);exact z2,fun i a q e1 e2=>by simp at e2⟩).drop t0
 refine ⟨_,rfl,p,_,31,_,rfl,S8.pull p,by decide,by decide,by decide,fun m H9 m0 m1 S9=>⟨m,rfl,by omega,by omega,?_⟩⟩
 refine WL (fun i σ H'=>∃ x5 pls nds B n,σ=[some (.ref p),some (.ref J),some (.ref l2),some (.ref r),some (.ref G),x5]/\Sep ((p,Bx n)::(r,Wk K CR CS pls nds B)::(Pl,Xo)::(G,StopL pls)::(J,ZO (xs.map V.str))::(l2,ZO U)::Δ) H'/\RInv xs pls nds B/\Zdd xs pls/\pls.length=i/\nds.length<=1+6 * i/\B.length<=1+i/\n<=1000+20 * i)
  ⟨_,[],_,_,_,rfl,(((((S9.pull l2).pull J).pull G).pull Pl).pull r).pull p,ZnJ,(fun _ h=>nomatch h),rfl,by decide,by decide,by decide⟩ ?_ ?_
 ·rintro i σ H10 hi ⟨x5,pls,nds,B,n,rfl,S10,I,hok,hpl,hnd,htb,hn⟩
  have hUn:U≠[]:=length_pos_iff.mp (by omega)
  refine ⟨_,rfl,_,rfl,_,rfl,_,rfl,p,G,n,pls.length+1,StopL pls,_,rfl,(S10.pull G).pull p,inferInstance,by omega,by omega,by omega,fun kk H11 hkk Z=>?_⟩
  refine ⟨_,rfl,_,rfl,1,rfl,J,_,rfl,SqL.of (Z.get J),fun n2 hn2=>?_⟩
  generalize W:upd H11 n2 _=H11b
  have S11b:=Z.newE hn2 W
  clear W
  rw [show (1:Int)=((1:Nat):Int) from rfl,cutd,<- List.map_drop] at S11b
  have hdn:xs.drop 1≠[]:=length_pos_iff.mp (by rw [length_drop];omega)
  have hsub:∀ y∈xs.drop 1,y∈xs:=fun y hy=>mem_of_mem_drop hy
  refine ⟨_,rfl,p,n2,l2,_,xs.drop 1,U,_,rfl,((S11b.pull l2).pull n2).pull p,hdn,hUn,by rw [length_drop];omega,by omega,hUv,by omega,fun t H12 s hs S12=>?_⟩
  refine ⟨xs,r,G,t,pls,nds,B,kk,s,_,rfl,N,((S12.pull G).pull Pl).pull r,S12.get t,I,ZkZ hs hsub,by omega,by omega,by omega,by omega,fun H13 nds' tabs' q' S13 I13 l1' l2' hq=>⟨_,rfl,Zz ?_⟩⟩
  have S14:=((((((S13.drop t).drop n2).pull l2).pull J).pull G).pull Pl).pull r |>.pull p
  have hok':=Zgp hok hq
  have hpl':(pls++[q']).length=i+1:=by rw [length_append,hpl];rfl
  exact ⟨_,pls++[q'],nds',tabs',_,rfl,S14,I13,hok',hpl',by omega,by omega,by omega⟩
 ·rintro σ H10 ⟨x5,pls,nds,B,n,rfl,S10,I,hok,hpl,hnd,htb,hn⟩
  refine ⟨8,rfl,by decide,by decide,fun D hD=>?_⟩
  have Z:Sep ((p,Bx n)::(r,Wk K CR CS pls nds B)::(G,StopL pls)::(J,ZO (xs.map V.str))::(l2,ZO U)::(Pl,Xo)::Δ) H10:=((((S10.pull l2).pull J).pull G).pull r).pull p
  refine WF (Yw (show 8<=1000 by decide)) Z hD (fun i ys Δ'=>ys=(QE i true).map V.bl/\∃ n':Nat,n'<=n+400 * i/\Δ'=(p,Bx n')::(r,Wk K CR CS pls nds B)::(G,StopL pls)::(J,ZO (xs.map V.str))::(l2,ZO U)::(Pl,Xo)::Δ) ⟨rfl,n,by omega,rfl⟩ ?_ ?_
  ·rintro i ys' Δ' H' hi hl ⟨rfl,n',hn',rfl⟩ S'
   refine ⟨_,rfl,_,rfl,_,rfl,_,rfl,_,rfl,xs,xs,U,p,r,G,J,l2,pls,nds,B,n',_,rfl,((((S'.pull l2).pull J).pull G).pull r).pull p,by omega,I.wf,hok,by omega,Y,by omega,Y,by omega,by omega,hUv,by omega,by omega,fun n2 H2 hn2 S2=>⟨_,⟨?_,n2,by omega,rfl⟩,S2.pull D⟩⟩
   rw [RT,map_append];rfl
  ·rintro ys' Δ' H2 ⟨rfl,n',_,rfl⟩ hl S2
   refine ⟨D,_,rfl,SqL.of (S2.get D),?_⟩
   rw [show ∀ k,(QE k true).all id=true from fun k=>by simp]
   exact q H2 ((((((S2.drop D).drop p).drop r).drop G).drop J).drop l2)
end
def ScR (K:Qa)(ns:List Int):Yv:=fun a h=>SqL K h a (ns.map V.int)
theorem ZnT (h:SqL K H a xs)(s:Same H H'):SqL K H' a xs:=by
 rcases h with (h | ⟨o,h⟩) | h
 ·exact .inl (.inl (s _ _ h))
 ·exact .inl (.inr ⟨o,s _ _ h⟩)
 ·exact .inr h
instance {K:Qa} {ns:List Int}:Up (ScR K ns):=⟨fun h s=>ZnT h s⟩
theorem ZhG (hS:SqL K H a (I.map V.int))(J:LamAt H Pl YM XL):Sep [(Pl,Xo),(a,ScR K I)] H:=by
 obtain ⟨tb,G⟩:=J.tbl
 refine ⟨some_of H [Pl],WZ,?_,Um H (some_of H [Pl]),fun b o e=>e,?_,trivial⟩
 ·have B:some_of H [Pl] Pl=H Pl:=Wg (by simp)
  rcases J with z | ⟨c,Y,W⟩
  ·exact .inl (by rw [B];exact z)
  ·exact .inr ⟨c,by rw [B];exact Y,UL W rfl⟩
 ·rcases hS.obj with z | ⟨o,e,Z,z⟩
  ·exact z _
  ·refine z _ (cut_some.mpr ⟨e,fun u y=>?_⟩)
   cases m:Yn u with
   | false=>rfl
   | true =>
    have:=WD y m
    rw [mem_singleton.mp this,G] at e
    cases e
    exact absurd rfl (Z _)
section
variable {P:Qk}{w:Qs}{K:Qa}{mg:Str->Option Qc}{base:Heap}{CR CS Pl:Addr}
inductive Zbv (K:Qa)(Pl:Addr)(vs:List V)(H:Hp)(Q:VK)(w_3:XK):Prop
 | mk (a:Addr) (ns:List Int):vs=[.ref a]->SqL K H a (ns.map V.int)->ns.length<=63->LamAt H Pl YM XL->(∀ H',Q (.bl true) H')->Zbv K Pl vs H Q w_3
abbrev nLw:List Str:=["_law_script"]
abbrev pnLw:List Str:=["_law_script"]
theorem scLw:Zo nLw pnLw (Zi s_law):={}
theorem Zmz (F:Fun K "law" "law" s_law f fd)(T:Yj mg)(DB:Def P w K mg base 14 "_law_box" ["_law_script","_law_k"] (Zbt K))(Y:Def P w K mg base 14 "_law_right" Zjp (Zca Pl)):FnOk P w K mg base ZI 15 f fd pnLw (Zbv K Pl):=by
 refine F.ok scLw (fun cdv A outer s H vs Q E hr h=>?_)
 obtain ⟨a,G,rfl,hS,h63,hL,q⟩:=h
 have S:=ZhG hS hL
 refine' ⟨?t,?h,?r⟩
 case h =>
  conv=>arg 2;whnf
  with_reducible refine' (Zg ?h1)
  case h1=>exact Zl (Zu (UT rfl) rfl T.all (by decide +kernel) (Zb (We (CompOk.of nLw s_law rfl rfl (by decide +kernel)) rfl (YT rfl T.range (Zb (Zp Yf Zc (Zu (ZgC rfl) rfl T.min (by decide +kernel) (Zb Zc (Zb (Zu ZH rfl T.len QC (Zb (pv 0) Za)) Za)))) Za))  (fun _ _ _ _ _=>Zy Y hr (Zb (Zy DB hr (Zb (pv 0) (Zb (pv 1) Za))) Za))) Za))
 try dsimp only [Yz,Cx.nox]
 refine ⟨_,rfl,a,_,rfl,.inl hS,_,_,rfl,_,_,rfl,rfl,?_⟩
 rw [length_map]
 generalize Z:(1:Int)+(if ((G.length:Nat):Int) < 3 then ((G.length:Nat):Int) else 3)=m
 have hm9:0<=m/\m<=9:=by rw [<- Z];split<;>omega
 refine ⟨m,(by first | rfl | exact congrArg (fun z=>[V.int z]) Z),by omega,by omega,fun D hD=>?_⟩
 refine WF (by exact Qo (show _<=1000 by omega) (by decide)) S hD (fun i I B=>I=(QE i true).map V.bl/\B=[(Pl,Xo),(a,ScR K G)]) ⟨rfl,rfl⟩ ?_ ?_
 ·rintro i W B H' hi hl ⟨rfl,rfl⟩ S'
  refine ⟨_,rfl,_,rfl,a,G,_,_,rfl,S'.get a,S',by omega,by omega,fun p H1 s1 S1=>?_⟩
  refine ⟨p,_,rfl,(S1.pull Pl).pull p,fun H2 J=>⟨_,⟨?_,rfl⟩,(J.pull D)⟩⟩
  rw [RT,map_append];rfl
 ·rintro W B H2 ⟨rfl,rfl⟩ hl J
  refine ⟨D,_,rfl,SqL.of (J.get D),?_⟩
  rw [show ∀ k,(QE k true).all id=true from fun k=>by simp]
  exact q H2
end
abbrev ZjX (P:Qk)(w:Qs)(K:Qa)(mg:Str->Option Qc)(base:Heap):Prop:=Def P w K mg base 1 "_law_take" ["_law_box_here","_law_many"] (VI 4611686018427387904)
section
variable {P:Qk}{w:Qs}{K:Qa}{mg:Str->Option Qc}{base:Heap}
abbrev vSigns:Str:=Zkf (Wd s_l_value)
theorem vs_len:vSigns.length=94:=by decide +kernel
theorem Znm:vSigns.cps.toList.all sgn=true:=by decide +kernel
abbrev nVv:List Str:=["_law_box_here","_law_way","_law_signs"]
theorem scVal:Zo nVv ["_law_box_here"] (Zi s_l_value):={}
theorem ZiQ {f:Addr}{fd:Qm}(F:Fun K "_law_value" "_law_value" s_l_value f fd)(T:Txt K mg)(D:ZjX P w K mg base):FnOk P w K mg base ZI 2 f fd ["_law_box_here"] Zce:=by
 refine F.ok scVal (fun cdv A outer s H vs Q E hr h=>?_)
 obtain ⟨p,n,rfl,hB,hn,q⟩:=h
 refine ⟨_,Zf (Zs (i:=1) scVal.nd rfl (Qy rfl) (Zy D hr (Zb (pv 0) (Zb Zc Za))))
   (Zf (ZZ (ZG Us (pv 1) Zc (ZA _)) (Zg (Zl (Zp YN (Zy D hr (Zb (pv 0) (Zb Zc Za))) Zc))) ZS)
   (Zf (ZZ (ZG ZY (pv 1) Zc (ZA _)) (Zg (Zl (Zk Zt (ZT (YC (Zp YN (Zp Zbl Zc Zc) Zc) (YC (Zp YN Zc (Zp Zbl Zc Zc)) (YC (Zp Zbl Zc Zc) (YC Zc Za rfl) rfl) rfl) rfl)) (Zy D hr (Zb (pv 0) (Zb Zc Za))) (fun _ _=>rfl)))) ZS)
   (Zf (ZZ (ZG ZY (pv 1) Zc (ZA _)) (Zg (Zl (Zk Zt (ZT (YC ZM (YC ZM (YC ZM (YC ZM (YC ZM (YC ZM (YC ZM (YC ZM Za rfl) rfl) rfl) rfl) rfl) rfl) rfl) rfl)) (Zy D hr (Zb (pv 0) (Zb Zc Za))) (fun _ _=>rfl)))) ZS)
   (Zf (Zs (i:=2) scVal.nd rfl (Pr rfl) ZM)
   (Zg (Zl (Xs Jp RE RF ZeP ZM (Zb (We (CompOk.of nVv s_l_value rfl rfl (by decide +kernel)) rfl
     (YT rfl T.range (Zb (Zy D hr (Zb (pv 0) (Zb (XF (ZG ZY (pv 1) Zc (ZA _)) Zc Zc) Za))) Za))
     (fun _ _ _ _ _=>Zk WM (pv 2) (Zy D hr (Zb (pv 0) (Zb (Zu (Zco (K:=K) rfl) rfl T.len QC (Zb (pv 2) Za)) Za))) (fun _ _=>rfl))) Za)))))))),?_⟩
 refine ⟨_,rfl,p,n,6,rfl,hB,by omega,by decide,by decide,fun r1 H1 a0 a1 B1 k1=>?_⟩
 refine ⟨_,rfl,_,_,rfl,rfl,_,rfl,Xk (fun c=>?_) (fun c=>?_)⟩
 · refine ⟨_,rfl,p,n+1,7,rfl,B1,by omega,by decide,by decide,fun B H2 b0 b1 I k2=>⟨_,_,rfl,rfl,?_⟩⟩
   exact q _ _ (by show (B - 3).natAbs < 10 ^ 30;omega) (I.le (by omega)) (k1.trans k2)
 refine ⟨_,rfl,rfl,_,rfl,Xk (fun c2=>?_) (fun c2=>?_)⟩
 · refine ⟨_,_,rfl,rfl,⟨by decide,by decide,by decide⟩,_,_,rfl,rfl,_,_,rfl,rfl,⟨by decide,by decide,by decide⟩,_,_,rfl,rfl,_,_,rfl,rfl,⟨by decide,by decide,by decide⟩,(by show 4<=Qg;decide),fun l W=>?_⟩
   have G:l≠p:=fun e=>by obtain ⟨_,_,_,z,_⟩:=B1;rw [e,z] at W;cases W
   refine ⟨_,rfl,p,n+1,4,rfl,B1.same (Zv W _),by omega,by decide,by decide,fun B H2 b0 b1 I k2=>?_⟩
   obtain ⟨v,hv,hm⟩:=ZbF (xs:=([.int (10 ^ (30:Int).toNat - 1),.int (1 - 10 ^ (30:Int).toNat),.int (10 ^ (29:Int).toNat),.int 0]:List V)) b0 b1
   refine ⟨l,_,_,v,rfl,rfl,SqL.of (k2 l _ G Zh),hv,q _ _ ?_ (I.le (by omega)) (k1.trans ((Zv W _).kp p |>.trans k2))⟩
   have all:(([.int (10 ^ (30:Int).toNat - 1),.int (1 - 10 ^ (30:Int).toNat),.int (10 ^ (29:Int).toNat),.int 0]:List V)).all Zbz=true:=by decide +kernel
   exact UZ (all_eq_true.mp all v hm)
 refine ⟨_,rfl,rfl,_,rfl,Xk (fun c3=>?_) (fun c3=>?_)⟩
 · refine ⟨(by show 8<=Qg;decide),fun l W=>?_⟩
   have G:l≠p:=fun e=>by obtain ⟨_,_,_,z,_⟩:=B1;rw [e,z] at W;cases W
   refine ⟨_,rfl,p,n+1,8,rfl,B1.same (Zv W _),by omega,by decide,by decide,fun B H2 b0 b1 I k2=>?_⟩
   obtain ⟨v,hv,hm⟩:=ZbF (xs:=([.str "",.str "0",.str "-1",.str "a",.str "none",.str "'",.str "\\", .str " "]:List V)) b0 b1
   refine ⟨l,_,_,v,rfl,rfl,SqL.of (k2 l _ G Zh),hv,q _ _ ?_ (I.le (by omega)) (k1.trans ((Zv W _).kp p |>.trans k2))⟩
   have all:(([.str "",.str "0",.str "-1",.str "a",.str "none",.str "'",.str "\\", .str " "]:List V)).all Zbz=true:=by decide +kernel
   exact UZ (all_eq_true.mp all v hm)
 refine ⟨rfl,?_⟩
 have fin:∀ (B:Int) (H2:Hp),0<=B->B < 41->BoxAt H2 p (n+2)->Kp p H1 H2->∃ j:Int,[V.int B]=[.int j]/\-(2 ^ 62)<=j/\j < 2 ^ 62/\∀ D,H2 D=none->CompW (Itr 0 j.toNat)
     (tOp rIxS (ZaH 2) (Zgr (VI 4611686018427387904) [] E0 (Xh (ZaH 0) (Xh (tCB (fun xs H Q=>∃ x n,xs=[x]/\Zif K x H n/\Q (.int n) H) (Xh (ZaH 2) Wa)) Wa))))
     [some (.ref p),some (.int r1),some (.str vSigns)] D (fun x H3=>∃ Y a ys,V.str ""=.str Y/\[x]=[.ref a]/\SqL K H3 a (ys.map V.str)/\(ys.map (·.length)).sum+ys.length * Y.length<=16777216/\Q (.str (Txt.join Y ys)) H3) H2:=by
   intro B H2 b0 b1 I k2
   refine ⟨B,rfl,by omega,by omega,fun Dl hD=>?_⟩
   have G:Dl≠p:=fun e=>by obtain ⟨_,_,_,z,_⟩:=I;rw [e,z] at hD;cases hD
   refine Zfx (Qo (show B.toNat<=1000 by omega) (ZfF (Qf _)))
     (fun i ys H'=>∃ zs:List Str,ys=zs.map V.str/\zs.length=i/\(∀ z∈zs,∃ c,z=⟨#[c]⟩/\sgn c=true)/\H' Dl=some (.lst ys)/\BoxAt H' p (n+2+i)/\Kp p H1 H'/\i<=B.toNat)
     ⟨[],rfl,rfl,(fun _ h=>nomatch h),Zh,I.same (Zv hD _),k2.trans ((Zv hD _).kp p),Qx _⟩ ?_ ?_ ?_
   · rintro i ys H' ⟨zs,rfl,hz,_⟩;rw [length_map];exact hz
   · rintro i ys H' hi ⟨zs,rfl,hz,J,Z,B',k',_⟩
     refine ⟨_,rfl,_,rfl,_,rfl,_,94,rfl,⟨by rw [vs_len];decide,vs_len.symm⟩,p,n+2+i,94,rfl,B',by omega,by decide,by decide,fun r3 H3 d0 d1 B3 k3=>?_⟩
     have W:vSigns.cps.toList.length=94:=by rw [<- Ye];exact vs_len
     obtain ⟨c,hc,hm⟩:=ZbF (xs:=vSigns.cps.toList) d0 (by rw [W];exact d1)
     refine ⟨vSigns,r3,c,rfl,rfl,(by rw [vs_len];decide),hc,k3 Dl _ G Z,zs++[⟨#[c]⟩],by rw [map_append];rfl,by rw [length_append,hz];rfl,?_,Zh,?_,fun b o nb e=>?_,hi⟩
     · intro z hz'
       rcases mem_append.mp hz' with h | h
       · exact J z h
       · rw [mem_singleton.mp h];exact ⟨c,rfl,all_eq_true.mp Znm c hm⟩
     · obtain ⟨x1,x2,x3,x4,x5⟩:=B3
       exact ⟨x1,x2,x3,by rw [Zj G.symm];exact x4,x5⟩
     · rw [Zj (Zx (k2 b o nb e) hD)];exact k3 b o nb (k' b o nb e)
   · rintro ys H' ⟨zs,rfl,hz,J,Z,B',k',_⟩
     have ones:∀ l:List Str,(∀ z∈l,∃ c,z=⟨#[c]⟩/\sgn c=true)->(l.map (·.length)).sum=l.length/\(l.flatMap (·.cps.toList)).length=l.length/\(l.flatMap (·.cps.toList)).all sgn=true:=by
       intro l
       induction l with
       | nil=>intro _;exact ⟨rfl,rfl,rfl⟩
       | cons z r ih =>
         intro h
         obtain ⟨c,rfl,hc⟩:=h z mem_cons_self
         obtain ⟨g1,g2,g3⟩:=ih fun y hy=>h y (mem_cons_of_mem _ hy)
         refine ⟨?_,?_,?_⟩
         · rw [map_cons,Ol,g1,length_cons];show 1+_=_;omega
         · have e0:((⟨#[c]⟩:Str)::r).flatMap (·.cps.toList)=c::r.flatMap (·.cps.toList):=rfl
           rw [e0,length_cons,length_cons,g2]
         · rw [Sd,Rw,g3];simp [hc]
     obtain ⟨g1,g2,g3⟩:=ones zs J
     refine ⟨_,Dl,zs,rfl,rfl,SqL.of Z,?_,q _ _ ⟨?_,?_⟩ (B'.le (by omega)) (k1.trans k')⟩
     · rw [g1];show _+_ * 0<=_;omega
     · rw [Ye];show (Txt.join (Qn "") zs).cps.toList.length<=40;rw [WU,g2];omega
     · show (Txt.join (Qn "") zs).cps.toList.all sgn=true;rw [WU];exact g3
 refine ⟨_,rfl,_,rfl,rfl,_,rfl,Xk (fun c4=>?_) (fun c4=>?_)⟩
 · exact ⟨p,n+1,4,rfl,B1,by omega,by decide,by decide,fun B H2 b0 b1 I k2=>by obtain ⟨j,e1,e2,e3,e4⟩:=fin B H2 b0 (by omega) I k2;exact ⟨j,e1,e2,e3,e4⟩⟩
 · exact ⟨p,n+1,41,rfl,B1,by omega,by decide,by decide,fun B H2 b0 b1 I k2=>by obtain ⟨j,e1,e2,e3,e4⟩:=fin B H2 b0 (by omega) I k2;exact ⟨j,e1,e2,e3,e4⟩⟩
end
end K26
namespace K26
open PySem L2
open PySem.W in
theorem all_mk {l:Ru}{w:Qs}{K:Qa}{h:Heap}{mg:Str->Option Qc}{fa:Addr}
 {nr oh nu m5 my mf me ly ji im d4 jj fw kd gj fb gk kc fc f7 jk d3 il ii jh ft jg gh ik kb ij jf ip m3 md kj kn l6 jl ma l5 ki l8 ke io jm jn mz kf gl lz m4 km fe kl oy ac ad lh P_leaf_of:Addr} {no og nq mx mq lx lv li i9 ic dz ja fr j3 gf en cy fm ba cb jb dw ib g8 i7 fo i6 ge ia j2 g9 i5 ig mu f6 j7 ka lm jc lr ll j6 lq j4 ie jd je mr j5 gg lj mw j9 er j8 nn:Qm} (X:K.In h) (G:h.Ns Qr mg) (hfa:mg "law"=some (.ref fa))
 (i4:CH K "Store" ac)
 (gs:QL K (.ref ac) "nodes"=some none)
 (ga:QL K (.ref ac) "tables"=some none)
 (i3:CH K "Roads" ad)
 (iq:QL K (.ref ad) "kept"=some none)
 (f8:QL K (.ref ad) "aheads"=some none)
 (gq:QL K (.ref ad) "steps"=some none)
 (f9:QL K (.ref ad) "tables"=some none)
 (gp:QL K (.ref ad) "costs"=some none)
 (gm:FG K "alike" s_alike nr no)
 (jo:FG K "mark" s_mark oh og)
 (gn:FG K "digit" s_digit nu nq)
 (fj:FGC K "leaf_of" s_leaf_of m5 mx lh P_leaf_of)
 (ff:FG K "fork_of" s_fork_of my mq)
 (dl:FG K "parts_in" s_parts_in mf lx)
 (dk:FG K "pairs_in" s_pairs_in me lv)
 (da:FG K "has_mark" s_has_mark ly li)
 (bu:FM K ac "__init__" "Store.__init__" c_Store___init__ ji i9)
 (bg:FM K ac "empty" "Store.empty" c_Store_empty im ic)
 (ak:FM K ac "check_table" "Store.check_table" c_Store_check_table d4 dz)
 (bv:FM K ac "keep" "Store.keep" c_Store_keep jj ja)
 (au:FM K ac "as_table" "Store.as_table" c_Store_as_table fw fr)
 (ci:FM K ac "way" "Store.way" c_Store_way kd j3)
 (ax:FM K ac "looked" "Store.looked" c_Store_looked gj gf)
 (al:FM K ac "fork_parts" "Store.fork_parts" c_Store_fork_parts fb en)
 (ao:FM K ac "put_in" "Store.put_in" c_Store_put_in gk cy)
 (cg:FM K ac "put" "Store.put" c_Store_put kc fm)
 (ag:FM K ac "taken_from" "Store.taken_from" c_Store_taken_from fc ba)
 (av:FM K ac "without" "Store.without" c_Store_without f7 cb)
 (bw:FM K ac "made" "Store.made" c_Store_made jk jb)
 (aj:FM K ad "check_place" "Roads.check_place" c_Roads_check_place d3 dw)
 (bf:FM K ad "table" "Roads.table" c_Roads_table il ib)
 (bc:FM K ad "ahead" "Roads.ahead" c_Roads_ahead ii g8)
 (bt:FM K ad "step" "Roads.step" c_Roads_step jh i7)
 (aq:FM K ad "step_has" "Roads.step_has" c_Roads_step_has ft fo)
 (br:FM K ad "last" "Roads.last" c_Roads_last jg i6)
 (aw:FM K ad "walked" "Roads.walked" c_Roads_walked gh ge)
 (be:FM K ad "go_on" "Roads.go_on" c_Roads_go_on ik ia)
 (cf:FM K ad "put" "Roads.put" c_Roads_put kb j2)
 (bd:FM K ad "clear" "Roads.clear" c_Roads_clear ij g9)
 (bq:FM K ad "__init__" "Roads.__init__" c_Roads___init__ jf i5)
 (bi:FG K "_law_cell_at" s_l_cell_at ip ig)
 (fh:FG K "_law_box" s_l_box m3 mu)
 (bn:FG K "_law_take" s_l_take md f6)
 (cn:FG K "_law_names" s_l_names kj j7)
 (cr:FG K "_law_value" s_l_value kn ka)
 (de:FG K "_law_pool" s_l_pool l6 lm)
 (bx:FG K "_law_values" s_l_values jl jc)
 (dj:FG K "_law_step" s_l_step ma lr)
 (dc:FG K "_law_from" s_l_from l5 ll)
 (cm:FG K "_law_grown" s_l_grown ki j6)
 (dh:FG K "_law_road" s_l_road l8 lq)
 (cj:FG K "is_number" s_is_number ke j4)
 (bh:FG K "is_tuple_of" s_is_tuple_of io ie)
 (bz:FG K "look_paper" s_look_paper jm jd)
 (ca:FG K "shows_look" s_shows_look jn je)
 (fg:FG K "_law_all" s_l_all mz mr)
 (ck:FG K "_law_alike" s_l_alike kf j5)
 (ay:FG K "_law_is_whole" s_l_is_whole gl gg)
 (db:FG K "_law_bent" s_l_bent lz lj)
 (fi:FG K "_law_odd" s_l_odd m4 mw)
 (cq:FG K "_law_shown" s_l_shown km j9)
 (am:FG K "_law_spoilt_right" s_l_spoilt_right fe er)
 (cp:FG K "_law_right" s_l_right kl j8)
 (mh:FG K "law" s_law oy nn)
 (qa:Qz K Qr "len"=some none)
 (pq:Qz K Qr "abs"=some none)
 (p9:Qz K Qr "int"=some none)
 (n5:Qz K Qr "range"=some none)
 (qc:Qz K Qr "min"=some none)
 (qb:Qz K Qr "max"=some none)
 (ox:Qz K Qr "repr"=some none)
 (kr:Qz K Qr "enumerate"=some none)
 (qd:Qz K Qr "ord"=some none)
 (ow:Qz K Qr "list"=some none)
 (n6:Qz K Qr "tuple"=some none)
 (ou:Qz K Qr "dict"=some none)
 (nj:Qz K Qr "sorted"=some none)
 (qg:Qz K Qr "sum"=some none)
 (pw:Qz K Qr "all"=some none)
 (p8:Qz K Qr "any"=some none)
 (ni:Qz K Qr "divmod"=some none)
 (qf:Qz K Qr "str"=some none)
 (jq:Qz K Qr "isinstance"=some none)
 (qe:Qz K Qr "set"=some none)
 (qh:Qz K Qr "zip"=some none)
 (mj:Qz K Qr "reversed"=some none)
 (oq:Qz K Qr "bool"=some none)
 {tb:Tok}
 (gBASE:Qz K Qr "BASE"=some (some (.int 4 tb)))
 {tz:Tok}
 (gZERO:Qz K Qr "BARE_NUMBER"=some (some (.int 0 tz)))
 {ab:Addr}
 (gBARE:Qz K Qr "BARE"=some (some (.ref ab)))
 (tBARE:ZcZ K ab [.str "bare"]=true)
 {af:Addr}
 (gFIG:Qz K Qr "FIGURES"=some (some (.ref af)))
 (tFIG:ZcZ K af [.int 0,.int 1,.int 2,.int 3]=true) :
 ∃ fd:Qm,(∀ (s:Qe) (v:Qc),RU s fd ⟨[v],[]⟩ [("_law_script",v)])/\∀ base:Heap,K.In base->base.Ns Qr mg->UP base mg->FnOk l.prog w K mg base ZI 15 fa fd ["_law_script"] (Zbv K P_leaf_of):=by
 have e:=hfa.symm.trans (mg_of X G mh.a)
 cases e
 have o6:=QR X G qa
 have oz:=QR X G pq
 have o5:=QR X G p9
 have nz:=QR X G n5
 have pb:=QR X G qc
 have o7:=QR X G qb
 have oo:=QR X G ox
 have ko:=QR X G kr
 have pd:=QR X G qd
 have om:=QR X G ow
 have n0:=QR X G n6
 have ol:=QR X G ou
 have nh:=QR X G nj
 have ph:=QR X G qg
 have o0:=QR X G pw
 have o4:=QR X G p8
 have ng:=QR X G ni
 have pf:=QR X G qf
 have jp:=QR X G jq
 have pe:=QR X G qe
 have pp:=QR X G qh
 have mi:=QR X G mj
 have oj:=QR X G oq
 have nw:=mg_of X G gBASE
 have ny:=mg_of X G gZERO
 have nv:=mg_of X G gBARE
 have oi:=mg_of X G gFIG
 have m9:=i4.c
 have m7:=i3.c
 have TB:Yj mg:=⟨o6,oz,o5,nz,pb,o7,oo,ko,pd,om,n0,ol,nh,ph,o0,o4,ng,pf,jp,pe,pp,mi,oj⟩
 have T:Txt K mg:=⟨TB,⟨_,nw⟩,⟨_,ny⟩,⟨_,nv,Zem tBARE⟩,⟨_,oi,Zem tFIG⟩⟩
 have TC:XD K ac:=⟨m9,gs,ga⟩
 have TR:XO K ad:=⟨m7,iq,f8,gq,f9,gp⟩
 refine ⟨nn,fun s v=>ZgZ mh.F (fun _ _ _ _ _ _ _=>rfl) s v,fun base _ _ hBm=>?_⟩
 have e:Bs l.prog w K mg base h:=⟨X,G⟩
 have ku:=gm.df e (ZiD gm.F) (gm.F.b2 fun _ _ _ _ _ _ _ _=>rfl)
 have ee:=jo.df e (ZkY jo.F T) (jo.F.b1 fun _ _ _ _ _ _ _=>rfl)
 have fk:=gn.df e (ZiF gn.F T) (gn.F.b2 fun _ _ _ _ _ _ _ _=>rfl)
 have gu:=fj.df e (ZkW fj.F T hBm ee) (fj.F.fn.b1 fun _ _ _ _ _ _ _=>rfl)
 have gt:=ff.df e (Zhh ff.F T) (ff.F.b1 fun _ _ _ _ _ _ _=>rfl)
 have cz:=dl.df e (ZiM dl.F) (dl.F.b1 fun _ _ _ _ _ _ _=>rfl)
 have bj:=dk.df e (ZiL dk.F) (dk.F.b1 fun _ _ _ _ _ _ _=>rfl)
 have fy:=da.df e (ZkS da.F) (da.F.b2 fun _ _ _ _ _ _ _ _=>rfl)
 have ix:=bu.di i4 e (FnOk.conv (sp':=VU K ac) (ZkT bu.F T TC) (fun _ _ _ _ h=>Zmk h)) (bu.F.b1 fun _ _ _ _ _ _ _=>rfl)
 have gx:=bg.df e (ZiG (C:=ac) bg.F T) (bg.F.b1 fun _ _ _ _ _ _ _=>rfl)
 have dr:=ak.df e (ZiE ak.F TC) (ak.F.b2 fun _ _ _ _ _ _ _ _=>rfl)
 have d6:=bv.df e (ZkU bv.F T TC) (bv.F.b2 fun _ _ _ _ _ _ _ _=>rfl)
 have bp:=au.df e (Zmv au.F TC) (au.F.b2 fun _ _ _ _ _ _ _ _=>rfl)
 have jt:=ci.df e (ZmD ci.F T TC dr cz ee fk) (ci.F.b3 fun _ _ _ _ _ _ _ _ _=>rfl)
 have cu:=ax.df e (Zhi ax.F T TC jt bj) (ax.F.b3 fun _ _ _ _ _ _ _ _ _=>rfl)
 have d5:=al.df e (Znz al.F T TC cz bj ee fk) (al.F.b3 fun _ _ _ _ _ _ _ _ _=>rfl)
 have cx:Binds K cy ["self","number","level","name","value"] []:=ao.F.b5 fun _ _ _ _ _ _ _ _ _ _ _=>rfl
 have gc:∀ NS,YE NS->DefM l.prog w K mg base 8 ac "put_in" nPi (VH K ac P_leaf_of NS 6):=fun NS N=>⟨_,_,ZeS N ao.F T TC fy bj ee fk gu gt d6 d5 cx ao.m 6,cx,ao.m⟩
 have j1:Binds K fm ["self","table","name","value"] []:=cg.F.b4 fun _ _ _ _ _ _ _ _ _ _=>rfl
 have js:DefM l.prog w K mg base 9 ac "put" ["self","table","name","value"] (Zbw K ac P_leaf_of):=⟨_,_,ZnG fun NS N=>ZmB N cg.F TC ku cu bp (gc NS N),j1,cg.m⟩
 have az:Binds K ba ["self","number","level","name"] []:=ag.F.b4 fun _ _ _ _ _ _ _ _ _ _=>rfl
 have d7:∀ NS,YE NS->DefM l.prog w K mg base 8 ac "taken_from" nTk (Zbx K ac P_leaf_of NS 6):=fun NS N=>⟨_,_,ZeT N ag.F T TC fy cz bj ee fk gu gt d6 az ag.m 6,az,ag.m⟩
 have fz:Binds K cb ["self","table","name"] []:=av.F.b3 fun _ _ _ _ _ _ _ _ _=>rfl
 have fx:DefM l.prog w K mg base 9 ac "without" ["self","table","name"] (ZcW K ac P_leaf_of):=⟨_,_,wo_S fun NS N=>ZnF N av.F TC cu bp (d7 NS N),fz,av.m⟩
 have iy:=bw.df e (ZkX bw.F T TC) (bw.F.b1 fun _ _ _ _ _ _ _=>rfl)
 have ai:=aj.df e (Zld (CS:=ac) aj.F TB TR) (aj.F.b2 fun _ _ _ _ _ _ _ _=>rfl)
 have gw:=bf.df e (ZiP bf.F TB TR ai) (bf.F.b2 fun _ _ _ _ _ _ _ _=>rfl)
 have dm:=bc.df e (ZiC bc.F TB TR ai) (bc.F.b2 fun _ _ _ _ _ _ _ _=>rfl)
 have iw:=bt.df e (ZiO bt.F TB TR ai) (bt.F.b2 fun _ _ _ _ _ _ _ _=>rfl)
 have bo:=aq.df e (Zmx aq.F TB TR iw) (aq.F.b3 fun _ _ _ _ _ _ _ _ _=>rfl)
 have iu:=br.df e (ZkV br.F TB TR bo (dm.mono (by decide))) (br.F.b3 fun _ _ _ _ _ _ _ _ _=>rfl)
 have gb:=aw.df e (Zhk aw.F TB TR iu) (aw.F.b3 fun _ _ _ _ _ _ _ _ _=>rfl)
 have dn:=be.df e (ZkR be.F TB TR TC (gw.mono (by decide)) (iy.mono (by decide)) js fx) (be.F.b3 fun _ _ _ _ _ _ _ _ _=>rfl)
 have jr:=cf.df e (Zlb cf.F TB TR dn) (cf.F.b4 fun _ _ _ _ _ _ _ _ _ _=>rfl)
 have gv:=bd.df e (ZkP bd.F TB TR dn) (bd.F.b3 fun _ _ _ _ _ _ _ _ _=>rfl)
 have ir:=bq.di i3 e ((ZiI bq.F TB TR TC ix (gx.mono (by decide))).mono (show 3<=12 by decide)) (bq.F.b1 fun _ _ _ _ _ _ _=>rfl)
 have gz:=bi.df e (ZkO bi.F TB) (bi.F.b2 fun _ _ _ _ _ _ _ _=>rfl)
 have mn:=fh.df e (FnOk.conv (sp':=Zbt K) (Zmw fh.F TB gz) (fun _ _ _ _ h=>Znq h)) (fh.F.b2 fun _ _ _ _ _ _ _ _=>rfl)
 have lg:Binds K f6 ["_law_box_here","_law_many"] []:=bn.F.b2 fun _ _ _ _ _ _ _ _=>rfl
 have DT0:ZjX l.prog w K mg base:=⟨_,_,Zlf bn.F,lg,bn.F.kp,(mg_of X G bn.a)⟩
 have ae:DTk l.prog w K mg base 1:=DT0.conv fun _ _ _ _ h=>Znh h
 have jx:=cn.df e (ZiK cn.F TB ae) (cn.F.b2 fun _ _ _ _ _ _ _ _=>rfl)
 have j0:=cr.df e (FnOk.conv (sp':=Vp) (ZiQ cr.F T DT0) (fun _ _ _ _ h=>ZlG h)) (cr.F.b1 fun _ _ _ _ _ _ _=>rfl)
 have kz:=de.df e (Zla de.F TB ae jx) (de.F.b2 fun _ _ _ _ _ _ _ _=>rfl)
 have iz:=bx.df e (Zhj bx.F TB j0) (bx.F.b1 fun _ _ _ _ _ _ _=>rfl)
 have ld:=dj.df e (Zle dj.F TB ae) (dj.F.b3 fun _ _ _ _ _ _ _ _ _=>rfl)
 have ky:=dc.df e (ZkQ dc.F TB ae) (dc.F.b2 fun _ _ _ _ _ _ _ _=>rfl)
 have jw:=cm.df e (ZiH cm.F TB TR jr gv) (cm.F.b4 fun _ _ _ _ _ _ _ _ _ _=>rfl)
 have k9:=dh.df e (ZiJ dh.F TB) (dh.F.b2 fun _ _ _ _ _ _ _ _=>rfl)
 have ju:=cj.df e (ZmA cj.F TB) (cj.F.b1 fun _ _ _ _ _ _ _=>rfl)
 have gy:=bh.df e (Zmy bh.F TB ju) (bh.F.b2 fun _ _ _ _ _ _ _ _=>rfl)
 have d9:=bz.df e (ZnA bz.F TB TR bo (dm.mono (by decide))) (bz.F.b3 fun _ _ _ _ _ _ _ _ _=>rfl)
 have i0:=ca.df e (ZnD ca.F TB TR (d9.mono (by decide)) (gy.mono (by decide)) (ku.mono (by decide)) gb) (ca.F.b5 fun _ _ _ _ _ _ _ _ _ _ _=>rfl)
 have ml:=fg.df e (Zmu fg.F TB (k9.mono (by decide))) (fg.F.b2 fun _ _ _ _ _ _ _ _=>rfl)
 have jv:=ck.df e (ZfL ck.F TB) (ck.F.b2 fun _ _ _ _ _ _ _ _=>rfl)
 have cw:=ay.df e (ZiR ay.F TB) (ay.F.b1 fun _ _ _ _ _ _ _=>rfl)
 have kx:=db.df e (Zny db.F TB ae cw) (db.F.b3 fun _ _ _ _ _ _ _ _ _=>rfl)
 have mo:=fi.df e (ZnB fi.F TB ae) (fi.F.b2 fun _ _ _ _ _ _ _ _=>rfl)
 have jz:=cq.df e (ZnC cq.F TB cw jv) (cq.F.b5 fun _ _ _ _ _ _ _ _ _ _ _=>rfl)
 have d8:=am.df e (ZnE am.F TB ae (d9.mono (by decide)) (i0.mono (by decide)) (ml.mono (by decide)) (kx.mono (by decide)) (mo.mono (by decide)) (jz.mono (by decide))) (am.F.b5 fun _ _ _ _ _ _ _ _ _ _ _=>rfl)
 have jy:=cp.df e (ZiN cp.F TB TR ae (kz.mono (by decide)) (iz.mono (by decide)) ir (ky.mono (by decide)) (ld.mono (by decide)) (jw.mono (by decide)) d8) (cp.F.b1 fun _ _ _ _ _ _ _=>rfl)
 exact Zmz mh.F TB (mn.mono (by decide)) jy
theorem walk {l:Ru}{q:Qk}{loose:List Str}{XP:(Str->Option Qc)->Heap->Prop}{YP:Qs->Heap->Prop}{d:DefRec}{K:Params->Qa}{ts:List Addr}{P_leaf_of:Addr}(hn:l.most=some 63)(hdf:d.params.defaults=[])
 (hY:∀ (w:Qs) (h:Heap),YP w h->(K w.params).In h/\∀ b∈ts,h.get? b=some (PySem.W.tabObj #[]))
 (hK:∀ (w:Qs) (b:Addr),b∈ts->(K w.params).lookup b=none/\∃ c,PySem.W.codeHdIn (K w.params) c b=true)
 (hP_leaf_of:P_leaf_of∈ts) (F:∀ (w:Qs) (mg:Str->Option Qc) (fa:Addr) (h:Heap),(K w.params).In h->h.Ns Qr mg->mg d.name=some (.ref fa) ->
  ∃ fd:Qm,(∀ (s:Qe) (u:Qc),RU s fd ⟨[u],[]⟩ [("_law_script",u)])/\∀ base:Heap,(K w.params).In base->base.Ns Qr mg->UP base mg->FnOk l.prog w (K w.params) mg base ZI 15 fa fd ["_law_script"] (Zbv (K w.params) P_leaf_of)) :
 PySem.W.WalkO q loose XP YP l.row.toRowW d [] (fun f vs=>PySem.call f vs) :=
 L2.walk_ofT (n:=63) (k:=15) (x:="_law_script") (CX:=fun _=>ZI) (sp:=fun w=>Zbv (K w.params) P_leaf_of) (ts:=ts) hn (by decide) hdf ⟨rfl,by decide,by decide,rfl⟩ hY hK F (fun w H a ns hl hO hS hT=>⟨a,ns,rfl,hS,hl,.inl (hT _ hP_leaf_of),fun _=>rfl⟩) fun _ _ _ _ _ z=>z
end K26
set_option genInjectivity false in
set_option genSizeOfSpec false in
structure PySem.W.Fast:Prop where (tw2596554813147461287 tw3199534579349663941 tw1678678397550967372 tw8051435308839745299 tw18305791790487922517 tw12115903819103564352 tw2315061038166941701 tw14783745430139892024 tw14975241368245484177 tw8520024802579145205 tw1078956235364539591 tw16435817724372372860 tw10884672570591621982 tw4737291004678803299 tw12890702102806249882 tw7135723766852718785 tw7537433931430254655 tw16069555030292731818 tw16339119779052281485 tw16823079930201441540 tw95318809040893386 tw7427692716740206638 tw14772949687505179131 tw1558921359397491157 tw5810941511767542136 tw4495915887253177988 tw11221481834429536014 tw10547439532210163946 tw11541101003434700446 tw7637665216146238647 tw16964828844834757924 tw16280777268401051670 tw1740458886873795283 tw13399066530302971886 tw13372393615228757381 tw4844407367007071923 tw13617163886521480349 tw3723560628706018503 tw16248857666259824337 tw9004902087718578458 tw16425731557725312193 tw13103332585776457169 tw2391582350288231154 tw15084460196510501063 tw1701138371133858480 tw8456896155866478899 tw636431070920377690 tw12809076265642182606 tw14205327711783007858 tw7848937594730957476 tw17084993930284882003 tw15312253007159337511 tw1196160464193801644 tw12784346901547636565 tw103746903648733496 tw17246861985388634704 tw1792649197238779017 tw14472570686399395442 tw2974930714062130500 tw8029217191289993545 tw9204655321102864160 tw553032537579153222 tw4264218880997476488 tw14914568758849642712 tw18351253224539805195 tw6958672825328593834 tw14705831128843814922 tw15556466688282015550 tw10855015551457580931 tw14930475147167417338 tw5684895086399493932 tw14150463188094648350 tw17184289151788872131 tw8101162381849754894 tw11455881690293626361 tw6019866076433362706 tw15940952630868836429 tw6169423968086001485 tw10527036780147823671 tw17565831034314805639 tw5329897818413841573 tw9047777929265034172 tw18099661438386979152 tw7225596248460861986 tw8443698700998171917 tw2707541850127165634 tw17484404651011842891 tw4073765616180166320 tw1409350803597817688 tw14250124156659073137 tw140791130866457430 tw11740059067285734451 tw11827650003519678870 tw344070152938029381 tw4714834713474106831 tw7298016621776364606 tw18001440377291629639 tw3404071664938932620 tw6059485411234998243 tw12658612369440111412 tw5841114435626442806 tw10951818183664713955 tw5914139173202613940 tw5930946647479040008 tw13280058386641877244 tw8235391372036692067 tw8066519283091540738 tw15816000185261542249 tw17778608480291012514 tw12824951952782537167 tw13665333786184558201 tw6386295561491510021 tw11229159413605157305 tw4849376893113460262 tw1987563734374430045 tw16227548032671769658 tw15110592720624449681 tw16422674632900168121 tw13422186156647948824 tw4104988912692314887 tw6849146011174992981 tw11066696003554449662 tw7904218331508895100 tw8218776222564952887 tw11418271784398202003 tw3854730910319556941 tw6484875143204244697 tw14860730405994984731 tw15942128932091548408 tw2885021391465532329 tw3725620941978130347 tw2747942845050031238 tw3161816761547133768 tw14390352007956805543 tw1558761042864320052 tw13247048167428777650 tw17429839099556352038 tw10998915107821821599 tw1673617965025729764 tw13554318905107722682 tw5426848181118749413 tw13169435004902737217 tw9031604817186112732 tw15723397671746150035 tw12655777347829076799 tw9729132709015892394 tw17082070786720576245 tw11516944914358396804 tw4973212590279680696 tw15148903090078819970 tw5072094598503033246 tw5726722630478401538 tw11224864184276793699 tw175369296192784405 tw18359888949422610537 tw7638088275853344718 tw10750667496825417293 tw6567012196163145518 tw3237802711158870069 tw12562697042937673911 tw7450484156586583558 tw18314436615988334480 tw10494886350529323864 tw5564743295333984069 tw11223403490464651170 tw6934645077140079835 tw1468617111808743847 tw3801303858394105318 tw10796083305423651224 tw11531780427897447836 tw6816523695629546931 tw2338236399393723944 tw8864104056253294428 tw383480831126343145 tw2269149957602511152 tw9643547332642277747 tw7783078388381306280 tw15597714782414673475 tw12372826512958636986 tw1676378560506315599 tw13044446275380738378 tw5422986697053377793 tw9867788208058302447 tw16328823090744447766 tw15372388297667970225 tw12860365106751808148 tw11669662492752458727 tw16425369120746704021 tw7876730512807903003 tw3771048026287133597 tw14158498990291333202 tw13008590087050817372 tw4168697557068432795 tw4987057728628064858 tw16722800611769830230 tw14124071315838777299 tw14777044729796843544 tw14066056147971920372 tw12856185290099181616 tw3470912669359668053 tw8219390017358886907 tw17935359323094460786 tw929541351370315024 tw12824609204428484700 tw2648782994662585249 tw6000407480080157019 tw8687490604723014468 tw4977251565840087054 tw11474936195211768356 tw11027132077696265899 tw14029706878964093093 tw9584133457817410085 tw9568308593670510404 tw5536613329291281141 tw13101717179321135385 tw9676214472481254812 tw9327427107093059805 tw845956457403602840 tw3774363287203642275 tw15987201458766093035 tw13427527704860390051 tw11694959125618446321 tw8521297170433127730 tw14999702800814602668 tw7085444704600526581 tw13057473989606596689 tw1770518457687335810 tw2170781849233432505 tw13408259365599045505 tw10258860275143597992 tw9494697433707707516 tw9821733225744155401 tw17764144363308043034 tw16287375132441725999 tw6298046794301266395 tw3249463901924300626 tw18291251001040971720 tw16410350619591619694 tw12257745616485672256 tw17829840998223818445 tw17076561490775715752 tw11979853235024011919 tw10754059315429251813 tw6210470516314306573 tw15216545174410958088 tw12389045813480241239 tw4355838807977632955 tw126073862794553018 tw2266398423543645248 tw2034548773036189777 tw5553146405688506650 tw8868308878564365911 tw822424208393517093 tw2758225100322299310 tw14829612874824750392 tw13042406011380227581 tw10651117840143023556 tw9564010087556523769 tw8055791511644460216 tw6512632057603641348 tw5083773184574479935 tw4716667725436894923 tw4389467600780713296 tw3743372664875441493 tw3709071737206364186 tw3615823439242705384 tw3539319702422550365 tw318740264649096830 tw2925506735713586291 tw17988091654373707204 tw15362500853404125167 tw15206469597352778574 tw14666462201943910809 tw13864459866617756623 tw13116127226308442579 tw13016007018324290884 tw12550790698493739346 tw12163684644804361764 tw1149085329702769101 tw1141141612453337146 tw11305849798395009967 tw10065015536085609814 tw6823516080378715600 tw10057752842400099062 tw10605889521426573714 tw8336204389566460762 tw8200023085143623853 tw7766636653854089362 tw7165649323229249466 tw14745164018962097820 tw14328606486530703008 tw12587752829124232942 tw11103798197351600193 tw10234200837992780804 tw5713008797262468767 tw1605171550380796560 tw8001747158838721695 tw11448560415757101165 tw5585977488732469866 tw12576742523236541741 tw7932016494532219263 tw3660937403041768146 tw15255723625595802890 tw9256759078806012383 tw893982877454183737 tw8771256989154449105 tw8758865876524056552 tw7628609310582402137 tw7566769525643887105 tw6592200563591639832 tw512312801172413559 tw4882930009643927955 tw4151864460755092627 tw4120601112878352881 tw3298967601316799301 tw2828428765702040410 tw18116153610404636452 tw17629056872599980566 tw1760934993703137197 tw15663671720475377319 tw14983683511784809506 tw1425668582142035852 tw14200153707529741714 tw13783613916851797600 tw13323903953309099572 tw1308160036635810051 tw12145370370798800477 tw11890531202617086813 tw11752400862527870249 tw8652771843365610879 tw9913001900561586666 tw1653052238076971419 tw9655504103010467250 tw10812495936933531394 tw13059732348391469711 tw18015935248192622411 tw2056858113679905298 tw18131549171632369337 tw9535761987507999088 tw1852725731801389291 tw12144619003549448328 tw10674100347881599964 tw9207947366021346496 tw6891180720034812930 tw6283949105573479369 tw4416438131989893154 tw290976255411131181 tw2709178698311304624 tw17464393068300869634 tw16829348919075275066 tw16317887618365809246 tw15434294199908618988 tw15009922679219224394 tw14499951287068723534 tw13223670656166704160 tw17293428601866851335 tw17006640550076377360 tw7410996805853252867 tw15577814956527501501 tw18389924918376430687 tw4929631822171339234 tw1618246741163960703 tw871147184421457937 tw17737776202158047743 tw16956078172539713158 tw13136119374070044164 tw10247273191077311086 tw7566813685783210467 tw7213096638410662231 tw599832765777215523 tw5637723831056907080 tw5254980744368873625 tw17747281264548888733 tw16216884718124587943 tw1585429271210355397 tw14191862757133571673 tw12592618446766908388 tw12928817331085322169 tw7133825826042115213 tw6887181309690777502 tw2003184151378930741 tw16499542131343115465 tw10460109052515506894 tw9428882832860070181 tw5565819695310278217 tw3476038307754266414 tw1276198505392469212 tw16698594390888744966 tw4803894791161107291 tw15254654165721004402 tw9942479281293069401 tw6238168390546641762 tw377805962983339368 tw2711666354877864852 tw16537572557455223585 tw342512307331730922 tw15529941919211309622 tw9561235695712781229 tw9396121820109154343 tw8751661524546560185 tw8623946319445883127 tw7110546031049698805 tw6638396516257826874 tw5838843461773023716 tw5805558618338543161 tw5668451931834285305 tw5130505229581179053 tw4525023546706126075 tw4475487265993684858 tw4388561488809058971 tw3412870761262263840 tw18402364241943409662 tw18229421106226381925 tw15942888031916439735 tw15152054596548285704 tw14047999367092986090 tw13974813110970602071 tw13855475841998630403 tw13301632687385577363 tw1329225416043541733 tw1319844930059898610 tw11155887068833640946 tw10943941932344089073 tw10615005350715676724 tw10112744954904242617 tw9994242998351562807 tw9953304883006745329 tw9452626002188750830 tw8959194680596116217 tw8890359326452230583 tw8722300114673027299 tw8704633972078523673 tw8698856663554432697 tw8652734092927876859 tw8374021242331185132 tw8241824686291215679 tw8032702753045355109 tw79768100470862098 tw7837361284909723644 tw7422322125059869114 tw7260467744674890282 tw7220161282789565646 tw7191827613254484305 tw7133921751025759070 tw6969590140818133412 tw6815031460870025045 tw6808848774464011169 tw5337177128056309956 tw5285010032328435560 tw5109053156569286407 tw5030192616620544389 tw4919144653754010377 tw4634730904048398565 tw4508825307841550611 tw4445831896460306235 tw4302592101548232901 tw3945012078493333621 tw3871303612831011653 tw3722984282298027045 tw3707824692099859869 tw3697570249696843000 tw3289894538824381502 tw2735177386298677536 tw2280605134291982406 tw2015093892399778856 tw2013163639435918737 tw18330115335079431031 tw18282880349392314760 tw18252292772159425980 tw17735744497318470356 tw1759217337774379551 tw17388792416836210773 tw17256082704225670897 tw17024998642883875014 tw16708396783101905932 tw16579861032543516716 tw16555644599348500863 tw15855849926326748212 tw15448837660870390964 tw14427459398411355579 tw14189270288512466288 tw14051157017728400951 tw13929490165147021342 tw13904688191982384838 tw13669815437991958686 tw13661911068423553548 tw13510671484294164848 tw13506438750312920645 tw12879891037236398287 tw12843632878960942495 tw12632646193088757223 tw12593953478928154262 tw12346838668251520101 tw12048903329350984781 tw11580999226383355959 tw11482645641590243827 tw11108178601599803486 tw11007675171408780905 tw10747547887535730753 tw10220750093892270512 tw10139173532740441168 tw9804317700212615956 tw9767930298398004838 tw9705913934684507782 tw9504694528444890821 tw9467864052130558727 tw9247028204647949107 tw9219122805744581318 tw9183619308449406968 tw9003758617452493340 tw8886223233834741294 tw8810760834773724066 tw8807245701988330738 tw8799701906952112784 tw8789569749857569658 tw8671298597232556464 tw8666413825769450243 tw8553312725377180188 tw8509657205815250882 tw850385269533204347 tw8330172880777836129 tw8154750348558827553 tw8122651185241147567 tw8121521370572861388 tw7912754328188403797 tw7880445548952133583 tw7746062921831135207 tw7667824148560978085 tw7624875949593440235 tw7481108629372751590 tw7432620642555814281 tw7369101730842958019 tw7344771762213346505 tw7155926942242307755 tw7138988348333800671 tw7074996807258461504 tw7006030611695350960 tw6945336657171074898 tw6900833540354713179 tw6856996743071135296 tw6853122004109522496 tw6848327396127864684 tw6744671222806810834 tw6679387599616034944 tw6620326692563072317 tw6534822530528682450 tw6310445347936221898 tw6144227488881366110 tw6075166408874924471 tw5951908612323463390 tw5438574412177893215 tw5359824621920824771 tw5329943824506756961 tw531827359533800857 tw5134711808708886741 tw5129582697211435645 tw5091358112322098582 tw5065968209653788592 tw4818926214201538735 tw4786613576687770855 tw4715642544251616496 tw4604987229642591381 tw4518960128986140508 tw4470309831011474975 tw4347119353084427946 tw4334683718726099618 tw4257912938373601168 tw424187319313554881 tw405474822177677699 tw3888309070619537160 tw3860033075892080423 tw3756872841684044162 tw3722213222913386229 tw371398693430678994 tw3610719436762914051 tw3522927387570425511 tw3072217108364884599 tw3022893856469845619 tw3022524458825430320 tw2951464717535080828 tw2939809602725168051 tw2874685964140575079 tw2767271159443154934 tw2460157241642549413 tw2390722521000892770 tw2388414223625422750 tw2388248791332569351 tw2379115045823180848 tw236692428752511185 tw2269381859349209562 tw223927653790740086 tw1985616496653185803 tw1981377436658125358 tw1954465900503685680 tw1949997147075086294 tw1914249199131965185 tw1839182247128983169 tw18309924577628492846 tw18242027785522541931 tw18147436066408329214 tw18049028431548257234 tw18003400407856175451 tw17895789740372132429 tw17885303648838309712 tw17877693457497801429 tw17813897027797979285 tw17767843968579799509 tw17430026153516980273 tw17407208986522549800 tw17361790165854734055 tw17341963831414209790 tw17305969730494666590 tw17256981515405271549 tw17174007877968573924 tw17029115221425726896 tw16946156819871977107 tw16789129262540061461 tw16733058061148924745 tw1667371710754024878 tw16615977828923950853 tw16559792642293142136 tw16435818824188644813 tw16176082409282281599 tw16030978226959439441 tw15979903059424483507 tw15856537819614655262 tw15659780165708807968 tw15599032014525943368 tw15594940186152766783 tw15532237170059912617 tw15434796600439472507 tw15214429183981632910 tw1509712704072258758 tw15017742806133070417 tw1499961702355976528 tw14955816331367319936 tw14950589308089821674 tw14895589718281688556 tw14855555158397499347 tw14846164632459643527 tw14800606700674126687 tw14783371680192203381 tw14758728968964540027 tw14532763815542521888 tw14435786553834991434 tw14250038047227612458 tw14227163209237038313 tw14148383595631946894 tw14135490662912676045 tw14061014661513034271 tw14060312566966657294 tw1403522671983970640 tw1397064665942821559 tw13888807113090691505 tw13848567653200240176 tw13781969662837378632 tw13755218448515673430 tw13647858841494903352 tw13579771463152958998 tw13500310263128531192 tw1342094579189147371 tw13193741422256836981 tw13138494188560037872 tw13102264848148542155 tw13014489846757347921 tw12548135365356857972 tw12500674064882561817 tw12446866976573576417 tw12358066446852944694 tw12246866310069159090 tw1177285301281723774 tw11717378046485241478 tw11607220172073763653 tw11590898240385852318 tw11197497692691366272 tw11094768591795731551 tw11081801657898120416 tw11012906542698481008 tw10704931192491335347 tw1063304740520915446 tw10607742122946119103 tw10595520724718747293 tw1056548363436269078 tw10470865431248687915 tw10425921691310083716 tw10424027176112678605 tw10418770719149526439 tw10417037972170750529 tw10415515966295412989 tw10415221605770172567 tw10316424539409930490 tw10202747529508893500 tw10154722740136568629 tw10121105428777405509:True)
open PySem PySem.W PyProof.Rows
set_option maxRecDepth 100000 in
set_option maxHeartbeats 0 in
theorem PySem.Challenge.cw_roadsettings_k26_looks_spoilt_anywhere_holds : PySem.Challenge.rw_roadsettings_k26_looks_spoilt_anywhere.Holds := by
  w_on; o_law; k_head; (case hw => w_witness2)
  k_fill
  refine' K26.walk (l := PySem.Challenge.rw_roadsettings_k26_looks_spoilt_anywhere) (P_leaf_of := 53) rfl rfl (fun w h Y => ⟨PySem.W.km_in_of Y, PySem.W.km_tabs_of Y⟩) ?hK ?hP0 ?F
  case hP0 => decide
  case hK =>
    intro w b hb
    simp only [List.mem_cons, List.not_mem_nil, or_false] at hb
    rcases hb with rfl | rfl
    · exact ⟨by kernel_rfl, 57, by kernel_rfl⟩
    · exact ⟨by kernel_rfl, 235, by kernel_rfl⟩
  case F =>
    intro w mg fa h KX G hmg
    refine' K26.all_mk KX G hmg ?_ ?_ ?_ ?_ ?_ ?_ ?_ ?_ ?_ ?_ ?_ ?_ ?_ ?_ ?_ ?_ ?_ ?_ ?_ ?_ ?_ ?_ ?_ ?_ ?_ ?_ ?_ ?_ ?_ ?_ ?_ ?_ ?_ ?_ ?_ ?_ ?_ ?_ ?_ ?_ ?_ ?_ ?_ ?_ ?_ ?_ ?_ ?_ ?_ ?_ ?_ ?_ ?_ ?_ ?_ ?_ ?_ ?_ ?_ ?_ ?_ ?_ ?_ ?_ ?_ ?_ ?_ ?_ ?_ ?_ ?_ ?_ ?_ ?_ ?_ ?_ ?_ ?_ ?_ ?_ ?_ ?_ ?_ ?_ ?_ ?_ ?_ ?_ ?_ ?_ ?_ ?_ ?_ ?_
    all_goals try (first | refine ⟨⟨by k_is, by k_is, by k_is⟩, ⟨_, _, _, _, _, _, _, _, _, rfl, by k_is, by k_is⟩, by k_is⟩ | refine ⟨by k_is, ⟨_, _, _, _, _, _, _, _, _, rfl, by k_is, by k_is⟩, by k_is⟩ | refine ⟨by k_is, ⟨by k_is, by k_is, by k_is, by k_is⟩, by k_is, by k_is⟩ | refine ⟨⟨by k_is, by k_is, by k_is⟩, ⟨_, _, _, _, _, _, _, _, rfl, by k_is, by k_is⟩, by k_is, by kernel_rfl⟩ | refine ⟨by k_is, ⟨_, _, _, _, _, _, _, _, rfl, by k_is, by k_is⟩, by k_is, by kernel_rfl⟩ | (show _ = _; first | k_is | kernel_rfl))
