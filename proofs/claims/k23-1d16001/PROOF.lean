import PyProof.Rows.All
import Wide.All
import OpenK.AllK
import Wide.FinOn
import Lean
import PyProof.EqAt
import PyProof.EqKinds
import PyProof.TupleCall
import PyProof.AutoListH
import PyProof.ExcBaseAll.ValueError
import PyProof.ExcAttrAll.ValueError
import KE.KEqDict
import PySem.Challenge.RW_roadsettings_k23_places_that_are_none
open PySem.W renaming Frag→Qa, nsIn→Qm, findIn→QA, mg_none_of→QK, looks_findIn→QN, kia_one→QQ, emptyDict→Gi, mg_of→Gq, keepIn→Gs, instObj→Gv, Looks→GB, callWith_K→Ja, kitOne→JF, fnOf→JG, methodCall_KW→JR, plainGet→JU, plainGet_of→Py, lookIn→PP, methodObj→Td, hasDictIn→Tg, isFn→Sg, cellsFrom_some→Sj, takerIn→Ss, makesIn→Su, OpenLaw→Sx, codeIn→SN, callWith_K0→Rh, plainOver→RW, kitx_list→RY, kitx_dict→RZ, handedIn→Oz
open PySem renaming Value→Qb, Shared→Qd, wpAny_bind→Qe, sizeLine→Qh, FuncData→Qi, Program→Qj, mainGlobals→Qk, wpAny→Qp, World→Qr, model→Qs, wpAny_pure→Qu, starEach→Qz, boot_len→QB, Around→QG, wpAny_loadPart_at→QJ, wpAny_Call_Name_kw→QP, typeLookup→QU, wpAny_mono→QX, wpAny_truthy_bool→QY, sizeLine_eq→QZ, wpAny_holding→Gf, foldedSetIterable→Gh, wpAny_isSubtype_exc→Gm, checkBuiltinCall→Go, wpAny_standAt→Gr, compareOp→Gu, rawInt→Gx, wpAny_passesOwn→GG, codeAny_mono→GK, strIterType→GL, codeAny_call_builtin→GM, excClassObj→GN, sysModules→GO, backTo→GP, behindInMarks→GQ, mem_of_lookup→GT, wpAny_getItem_str_slice→GV, keywordEach→GX, sliceBounds→GY, Builtin→Ji, bindName→Jm, bootBuiltins→Jp, binaryOp→Ju, attributeBase→Jv, PyData→Jy, swapsWith→JA, holding→JB, wpAny_newObj_type→JC, wpAny_bindName→JD, codeAny→JE, wpAny_pyIter_enum→JM, plainObj_wpAny_Assign_Attribute→JQ, wpAny_call→JV, assignInOrder→Pa, wpAny_loadName_local→Pe, backToKw→Pf, NameKind→Pg, wpAny_execs_nil→Pm, letOwnedTupleGo→Po, post_val_or_str→Pu, codeAny_builtin→Pw, getMethod→PJ, assignEach→PM, wpAny_newFunctionEnv_cells→PQ, call_meets→PR, tupleKind_room_in1→PU, wpAny_letOwnedTupleGo_enum→PV, standAt→Te, slot_list_getitem→Th, wpAny_field→Tl, Paired→Tn, wpAny_getItem_list_slice→Tq, wpAny_comprehension_free→Ts, tupleKind→Tz, wpAny_execs_cons→TD, callWith→TK, wpAny_pyNext_enum_itemD→TQ, builtinsNs→Sc, wpAny_isTrue_Compare1→Sz, assign→SL, recursionLimit→SM, lookup_relabel_local→SQ, wpAny_setField→SX, unbindBehindTheSuite→SY, BindsTo→SZ, callerA→Rb, Fin→Rc, wpAny_loadName_cell→Re, wpAny_Tuple_spliced→Rg, wpAt_of_wpAny→Rk, Model→Rm, swapsWithSole→Ro, swappedStores→Rp, wpAny_Name→Ry, wpAny_Constant_int→Rz, wpAny_rule→RA, wpAny_pyIter_tuple→RB, Result→RC, typeIs_str→RH, sliceRange→RJ, getattributeRaised→RO, Within→RQ, GenState→RS, wpAny_assign_Name→RT, wpAny_pyIter_list→RV, Keyword→Oc, wpAny_evalAll_nil→Od, seqIndex_neg→Of, valueAt→Oh, call_meetsIn→Oj, wpAny_pyIter_strU→Om, wpAny_typeOf→Op, wpAny_lookBehind→OA, pastItsLine_dict→OB, slicePick→OE, wpAny_pyIter_zip→OI, take_succ_filter→ON, wpAny_madeBy_exc→OO, bindL→OT, seqIndex_of→OU, wpAny_of_eq→OV, exec_Assign_arm→OX, call_tuple_list→OY, codeAny_of_tree→Nf, wpAt_bind→Ni
open PySem.Heap renaming get?_push_of_some→Qc, lt_size→Qf, get?_push_size→Qo, get?_update_other→Gj, get?_update_self→Jf, size_push→Jo, size_after_update→JO, get?_none_of_le→Pc, get?_push_cases→Pj, get?_update_ne→Pz, size_update→TU, SameBut→Sd, get?_push_ne→Oo, get?_push_at→Ov
open Nat renaming le_refl→Qg, ne_of_lt→Qq, le_trans→Qw, lt_of_lt_of_le→QE, zero_le→QF, lt_of_le_of_lt→Gc, lt_irrefl→Gz, le_succ→GA, not_lt→GE, ne_of_gt→GI, le_of_lt→GZ, sub_self→Jb, lt_succ_of_lt→Jj, le_of_eq→Jq, le_add_right→Jr, lt_succ_self→TJ, add_lt_add_iff_left→TX, lt_add_of_pos_right→TY, min_self→On, pow_zero→Os, succ_ne_self→OG, mod_eq_of_lt→OL, mod_one→OW, min_le_left→Nh
open PySem.Value renaming ref→Ql, none→QR, builtin→Jw, str→PH, int→Tx, bool→Sa, type→Sb, float→OR
open List renaming getElem?_eq_some_iff→Qn, replicate→QH, range→QW, getElem_mem→Ge, lookup→GJ, replicate_succ→GU, getElem?_cons_succ→GW, mem_iff_getElem?→Jg, take_add_one→Jh, mem_append_left→Jl, map_congr_left→Js, flatten_cons→JJ, append_assoc→JK, nodup_nil→JN, length_replicate→JS, length_drop→JX, getElem?_set_ne→Pd, mem_iff_getElem→Ph, eq_nil_of_length_eq_zero→Pi, length_nil→Pr, append_nil→Ps, length_zip→Px, getElem?_eq_none_iff→Ta, exists_mem_of_ne_nil→Tb, flatMap_cons→Ti, nodup_append→Tj, getElem?_set→Tk, set_comm→To, take_length→TN, getElem?_set_self→Se, map_nil→Sk, range_succ→Sv, all_append→Sy, filterMap_append→SD, length_filter_le→SG, mem_of_mem_take→SW, length_reverse→Ri, mem_map_of_mem→Rj, all_cons→Rt, foldl→RI, filterMap_map→RL, getElem?_drop→RM, take_sublist→Oe, reverse_cons→Og, ext_getElem?→Oq, cons_append→OF, getElem_map→OH, filter_cons→OM, foldl_cons→OZ, forIn_cons→Nc
open Bool renaming false_ne_true→Qt, and_eq_true→QM, false_eq_true→GD, eq_iff_iff→Pq, or_true→Sn, not_eq_true'→Ot
open Option.some renaming inj→Qv
open PySem.F renaming plainAttrs_list→Qx, slot_list_append→QC, type_list_append→QD, excBase_ValueError→GF, plainAttrs_str→Jc, typeOf_object_class→Jk, store_ValueError→Jx, slot_dict_get→JT, attrBase_ValueError→PF, slot_tuple_getattribute→PZ, slot_list_extend→Tv, type_list_extend→Tw, args_dict_get_2→TL, plainAttrs_dict→TM, slot_dict_items→TW, slot_list_index→TZ, entry_dict_get→Sl, slot_str_index→Sq, type_str_index→Sr, slot_str_join→SJ, type_str_join→SK, slot_int_rmul→Na
open Or renaming inl→Qy, inr→Tr
open PySem.Str renaming ofString→QI
open Sum renaming inr→QL, inl→QO
open False renaming elim→QS
open PySem.Obj renaming mapSeq→QT, mapFields→Ga, data_mapFields→PX, isFreed_of_fields→SH
open Array renaming getElem?_eq_some_iff→QV, length_toList→GS, getElem?_eq_none→Sm, getElem?_toList→SE, toArray_toList→SU
open PySem.PassesOwn renaming never→Gb, leaving→Ox
open Ne renaming symm→Gg
open PyProof.Rows renaming seqObj→Gk, callWith_type1→Gy, assignInOrder_cons→GC, subscriptTail_builtinR→JH, envOfC→JW, StrsAre→Pb, AllBare→PB, isInt→PY, assignInOrder_nil→Tf, listUpdate_at→Tt, get?_update_seq→Sw, IntsAre→Ra, Constant_none→Rn, subscriptTail→Rq, arrOf→Rv, Subscript_→RE, slot_tuple_getitem→RG, size_push'→RN, unpackItems_tuple→RU, callWith_builtin1→OC, IsTup→OS
open True renaming intro→Gn
open Int renaming emod_lt_of_pos→Gp, emod_nonneg→Gw, fdiv_eq_ediv_of_nonneg→Jn, fmod_eq_emod_of_nonneg→PN, zero_add→So, ediv_one→Ol
open Option renaming map_some→GH, map_eq_some_iff→JP, isSome_iff_exists→Tp, toList_some→RP, isSome_map→Oi, getD_none→OD
open PySem.Builtin.List renaming listTooLong→GR
open ForInStep renaming yield→Jd
open PySem.NameKind renaming free→Je
open PySem.Heap.SameBut renaming update→Jt
open PySem.Code renaming quiet_builtin→Jz, isFrame→Oa
open PySem.Calls renaming callWith_builtin→JI, Name_function_global→PL, evalArgs_plain→SO, call_len_list→Rf, spliced_cons→RD, spliced_nil→Ob
open PySem.PyData renaming hasDictAll→JL, hasDict→SS, strOk→Ou, canLayAll0→Ow, depthAll→Nj
open PySem.Builtin.ObjectAttr renaming storeInDict→JY, newKeyGuard→OP
open PySem.Paired renaming length→JZ
open PySem.Challenge renaming pw_roadsettings_k23_places_that_are_none→Pk
open PySem.Builtin.Str renaming strSliceIndices→PD
open Sum.inr renaming inj→Tc
open List.cons renaming inj→Tu
open PyProof.Rows.IsTup renaming new→TH
open PySem.Builtin.Dict renaming updateFrom→TV
open PyProof renaming noPylong_small→Sf
open PySem.Around renaming under→Sh, under_plainId→SV
open Classical renaming choose_spec→SI
open PySem.EntryCells renaming newEntry→Rl
open PySem.Shared renaming TypeIs→Ru
open PySem.SeqAt.EqAt renaming int_str→Rw, str_int→Rx
open PySem.Heap.IsSliceOf renaming new→RF
open PySem.Heap.Ns1 renaming of_empty→RX
open PySem.Flow renaming next→Oy
open List.Perm renaming nil_eq→OJ
open PySem.W.Looks renaming ld→OQ
open PySem.Heap.DictOf renaming new→Nb
open Array.Perm renaming refl→Ng
set_option Elab.async false
set_option linter.all false
set_option maxRecDepth 100000
set_option maxHeartbeats 4000000
open List (all_eq_true any_cons contains_cons filterMap_cons find?_cons getD_eq_getElem?_getD getElem?_append_left getElem?_append_right getElem?_eq_getElem getElem?_map getElem?_zip_eq_some length_append length_cons length_eq_one_iff length_eq_zero_iff length_map length_pos_iff length_set length_take lookup_cons map_append map_cons map_map mem_append mem_append_right mem_cons mem_cons_of_mem mem_cons_self mem_filter mem_filterMap mem_map mem_of_getElem? mem_range mem_singleton nodup_cons not_mem_nil of_mem_zip pairwise_map size_toArray take_of_length_le)
local macro_rules | `(tactic| omega) => `(tactic| lia)
namespace L2
open PySem PySem.Spec PyProof.Rows
abbrev Zn:=Sum Int Str
def UM:Zn->Qb->Bool
 | .inl k,v=>Value.isInt k v
 | .inr x,v=>Value.isStrOf x v
def keyH (w:Qr):Zn->Int
 | .inl k=>hashInt k
 | .inr x=>hashStr w x
theorem Yr:∀{k:Zn}{v:Qb},UM k v=true->(∃ i t,k=QO i/\v=Tx i t)\/(∃ x t,k=QL x/\v=PH x t)
 | .inl i,v,h=>by
  obtain ⟨t,e⟩:=Value.isInt_shape (k:=i) (v:=v) h
  exact .inl ⟨i,t,rfl,e⟩
 | .inr x,v,h=>by
  obtain ⟨t,e⟩:=Value.isStrOf_shape (x:=x) (v:=v) h
  exact .inr ⟨x,t,rfl,e⟩
theorem Zgn (i:Int)(t:Tok):UM (.inl i) (.int i t)=true:=by simp [UM,Value.isInt]
theorem Zgx (x:Str)(t:Tok):UM (.inr x) (.str x t)=true:=by simp [UM,Value.isStrOf]
theorem Zmm (a b:Int):decide ((QO a:Zn)=QO b)=(a == b):=by
 by_cases e:a=b
 ·subst e;simp
 ·have h:¬ (QO a:Zn)=QO b:=fun q=>e (Sum.inl.inj q)
  rw [decide_eq_false h]
  exact (beq_eq_false_iff_ne.mpr e).symm
theorem Zlz (a b:Str):decide ((QL a:Zn)=QL b)=decide (a=b):=by
 by_cases e:a=b
 ·subst e;simp
 ·have h:¬ (QL a:Zn)=QL b:=fun q=>e (Tc q)
  rw [decide_eq_false h,decide_eq_false e]
theorem ZlC (a:Int)(b:Str):decide ((QO a:Zn)=QL b)=false:=decide_eq_false (fun q=>nomatch q)
theorem ZlN (a:Str)(b:Int):decide ((QL a:Zn)=QO b)=false:=decide_eq_false (fun q=>nomatch q)
def ZQ (prog:Qj)(w:Qr):PySem.KeyKind prog w Zn where
 is:=UM
 hash:=keyH w
 inj := fun v a b ha hb=>by
  rcases Yr ha with ⟨i,t,rfl,rfl⟩ | ⟨x,t,rfl,rfl⟩
  ·rcases Yr hb with ⟨j,u,rfl,e⟩ | ⟨y,u,rfl,e⟩
   ·injection e with e1 _;rw [e1]
   ·exact nomatch e
  ·rcases Yr hb with ⟨j,u,rfl,e⟩ | ⟨y,u,rfl,e⟩
   ·exact nomatch e
   ·injection e with e1 _;rw [e1]
 byValue:=fun k v h=>by
  rcases Yr h with ⟨i,t,rfl,rfl⟩ | ⟨x,t,rfl,rfl⟩<;>rfl
 pyHash:=fun hv h=>by
  rcases Yr hv with ⟨i,t,rfl,rfl⟩ | ⟨x,t,rfl,rfl⟩
  ·exact wpAny_pyHash_int h
  ·exact wpAny_pyHash_str h
 eqBool:=fun hu hv h=>by
  rcases Yr hu with ⟨i,t,rfl,rfl⟩ | ⟨x,t,rfl,rfl⟩
  ·rcases Yr hv with ⟨j,u,rfl,rfl⟩ | ⟨y,u,rfl,rfl⟩
   ·rw [Zmm] at h;exact wpAny_eqBool_int h
   ·rw [ZlC] at h;exact Rw i t y u _ _ _ _ h
  ·rcases Yr hv with ⟨j,u,rfl,rfl⟩ | ⟨y,u,rfl,rfl⟩
   ·rw [ZlN] at h;exact Rx x t j u _ _ _ _ h
   ·rw [Zlz] at h;exact wpAny_eqBool_str h
 «strs»:=fun k x t v h=>by
  rcases Yr h with ⟨i,u,rfl,e⟩ | ⟨y,u,rfl,e⟩
  ·exact nomatch e
  ·injection e with e1 _
   subst e1
   cases v<;>rfl
theorem Zfo (prog:Qj)(w:Qr)(k:Zn)(v:Qb):(ZQ prog w).is k v=UM k v:=rfl
theorem ZdT (prog:Qj)(w:Qr)(i:Int)(t:Tok):(ZQ prog w).is (.inl i) (.int i t)=true:=Zgn i t
theorem VU (prog:Qj)(w:Qr)(x:Str)(t:Tok):(ZQ prog w).is (.inr x) (.str x t)=true:=Zgx x t
inductive V where
 | non | bl (b:Bool) | int (i:Int) | str (x:Str) | byt (b:Array UInt8) | flt (b:UInt64) | ref (a:Addr) | ty (n:String)
 deriving DecidableEq
def RelV:V->Qb->Prop
 | .non,u=>u=QR
 | .bl b,u=>u=Sa b
 | .int i,u=>∃ t,u=Tx i t
 | .str x,u=>∃ t,u=PH x t
 | .byt b,u=>∃ t,u=Value.bytes b t
 | .flt b,u=>∃ t,u=OR b t
 | .ref a,u=>u=Ql a
 | .ty n,u=>u=Sb n
abbrev Vals:List V->List Qb->Prop:=Tn RelV
theorem Vals.length {xs:List V}{us:List Qb}(r:Vals xs us):xs.length=us.length:=JZ r
theorem Vals.get:∀{xs:List V}{us:List Qb}{i:Nat}{x:V},Vals xs us->xs[i]?=some x->∃ u,us[i]?=some u/\RelV x u
 | _,_,_,_,.nil,e=>by simp at e
 | _,_,0,_,.cons r _,e=>by simp at e;subst e;exact ⟨_,rfl,r⟩
 | _,_,i+1,x,.cons _ t,e=>by
  obtain ⟨u,h1,h2⟩:=Vals.get (i:=i) (x:=x) t (by simpa using e)
  exact ⟨u,by simpa using h1,h2⟩
theorem Vals.set {x:V}{u:Qb}(r:RelV x u):∀{xs:List V}{us:List Qb}(i:Nat),Vals xs us->Vals (xs.set i x) (us.set i u)
 | _,_,_,.nil=>.nil
 | _,_,0,.cons _ t=>.cons r t
 | _,_,i+1,.cons q t=>.cons q (Vals.set r i t)
theorem Vals.append:∀{xs ys:List V}{us z:List Qb},Vals xs us->Vals ys z->Vals (xs++ys) (us++z)
 | _,_,_,_,.nil,s=>s
 | _,_,_,_,.cons r t,s=>.cons r (Vals.append t s)
theorem Vals.take:∀{xs:List V}{us:List Qb}(n:Nat),Vals xs us->Vals (xs.take n) (us.take n)
 | _,_,0,_=>.nil
 | _,_,_+1,.nil=>.nil
 | _,_,n+1,.cons r t=>.cons r (Vals.take n t)
theorem Vals.drop:∀{xs:List V}{us:List Qb}(n:Nat),Vals xs us->Vals (xs.drop n) (us.drop n)
 | _,_,0,r=>r
 | _,_,_+1,.nil=>.nil
 | _,_,n+1,.cons _ t=>Vals.drop n t
def RelO:Option V->Option Qb->Prop
 | some v,some u=>RelV v u
 | none,none=>True
 | _,_=>False
def KV {κ:Type}:List (κ×V)->List (κ×Qb)->Prop:=Tn fun (p:κ×V) (q:κ×Qb)=>p.1=q.1/\RelV p.2 q.2
def kV:Zn->V
 | .inl i=>.int i
 | .inr x=>.str x
inductive HO where
 | lst (xs:List V)
 | tup (xs:List V)
 | dK (kvs:List (Zn×V)) | dT (kvs:List (List Zn×V))
 | set (S:Int->Bool) (n:Nat)
 | ins (C dx:Addr) (fs:List (Str×V))
 | own (x:Addr)
 | xd (fs:List (Str×V))
 | met (f x:Addr)
 | rng (lo hi:Int)
 | frz (o:Obj) (u:HO)
 | tbl (ps:Array Qb)
 | ext (φ:Heap->Prop)
abbrev Hp:=Addr->Option HO
def upd (H:Hp)(a:Addr)(o:HO):Hp:=fun b=>if b=a then some o else H b
theorem Zh {H:Hp}{a:Addr}{o:HO}:upd H a o a=some o:=by unfold upd;rw [if_pos rfl]
theorem Zi {H:Hp}{a b:Addr}{o:HO}(h:b≠a):upd H a o b=H b:=by unfold upd;rw [if_neg h]
theorem ZaA {H:Hp}{a b:Addr}{o u:HO}(h:H a=some o)(h':H b=some u)(d:o≠u):a≠b:=by
 intro e;subst e;rw [h] at h';exact d (Qv h')
theorem Zp {H:Hp}{a b:Addr}{o:HO}(h:H a=some o)(h':H b=none):a≠b:=by
 intro e;subst e;rw [h] at h';cases h'
section
variable (P:Qj)(w:Qr)
def ObjOk (H:Hp)(h:Heap)(a:Addr):HO->Prop
 | .lst xs=>xs.length<=Qh/\∃ (its:List Qb) (n:Nat),Vals xs its/\h.get? a=some { cls:=.type "list",data:=.seq its.toArray n }
 | .tup xs=>xs.length<=Qh/\∃ its:List Qb,Vals xs its/\OS h a its.toArray
 | .dK kvs=>kvs.length<=Qh/\(a == GO)=false/\∃ vs,KV kvs vs/\h.DictOf (ZQ P w) a vs
 | .dT kvs=>kvs.length<=Qh/\(a == GO)=false/\∃ xs:List (List Zn×Addr×Qb),
     Tn (fun (p:List Zn×V) (q:List Zn×Addr×Qb)=>p.1=q.1/\H q.2.1=some (.tup (p.1.map kV))/\RelV p.2 q.2.2) kvs xs /\
     ∃ o es ep,h.get? a=some o/\o.ExactDict/\o.data=.dict es ep/\es.toList=xs.map (entryOfKey (Tz (ZQ P w)))/\(xs.map (·.1)).Nodup
 | .set S n=>h.SetOf (intKind P w) a S n
 | .ins C dx fs=>H dx=some (.own a)/\fs.length<=1000/\dx≠a/\h.get? a=some (Gv C dx) /\
     ∃ mA,h.Ns1 dx mA/\(∀ f,RelO (fs.lookup f) (mA f))/\RQ mA (fs.map (·.1))
 | .own _=>∃ o,h.get? a=some o
 | .xd fs=>∃ mA,h.Ns1 a mA/\∀ f,RelO (fs.lookup f) (mA f)
 | .rng lo hi=>∃ t u v,h.get? a=some { cls:=.type "range",data:=.fields #[.int lo t,.int hi u,.int 1 v] }
 | .frz o u=>h.get? a=some o/\ObjOk H h a u
 | .tbl ps=>h.get? a=some { cls:=.none,data:=.fields ps }
 | .met f x=>h.get? a=some (Td (.ref f) (.ref x))
 | .ext φ=>φ h/\(∃ o,h.get? a=some o)/\∀ h1 h2:Heap,φ h1->(∀ o,h1.get? a=some o->h2.get? a=some o)->φ h2
def HOk (H:Hp)(h:Heap):Prop:=∀ a o,H a=some o->ObjOk P w H h a o
end
section
variable {P:Qj}{w:Qr}{H H':Hp}{h h':Heap}{a:Addr}{o:HO}
theorem ObjOk.lt (x:ObjOk P w H h a o):a < h.objs.size:=by
 cases o with
 | lst xs=>obtain ⟨_,_,_,_,e⟩:=x;exact Qf e
 | tup xs=>obtain ⟨_,_,_,p⟩:=x;exact p.lt
 | dK kvs=>obtain ⟨_,_,_,_,o,_,_,e,_⟩:=x;exact Qf e
 | dT kvs=>obtain ⟨_,_,_,_,o,_,_,e,_⟩:=x;exact Qf e
 | set S n=>obtain ⟨o,_,_,_,e,_⟩:=x;exact Qf e
 | ins C dx fs=>obtain ⟨_,_,_,e,_⟩:=x;exact Qf e
 | own y=>obtain ⟨_,e⟩:=x;exact Qf e
 | xd fs=>obtain ⟨_,⟨_,_,_,e,_⟩,_⟩:=x;exact Qf e
 | rng lo hi=>obtain ⟨_,_,_,e⟩:=x;exact Qf e
 | frz ob u=>obtain ⟨e,_⟩:=x;exact Qf e
 | tbl ps=>exact Qf (show h.get? a=some _ from x)
 | met f y=>exact Qf (show h.get? a=some _ from x)
 | ext φ=>obtain ⟨_,⟨_,e⟩,_⟩:=x;exact Qf e
theorem Tn.mapP {I J:Type}{F G:I->J->Prop}:∀{z:List I}{B:List J},Tn F z B->(∀ a b,F a b->G a b)->Tn G z B
 | _,_,.nil,_=>.nil
 | _,_,.cons r t,f=>.cons (f _ _ r) (Tn.mapP t f)
theorem ObjOk.stay (x:ObjOk P w H h a o)(k:∀ b u,(b=a\/H b=some (.own a))->h.get? b=some u->h'.get? b=some u)
 (W:∀ b,H b=some (.own a)->H' b=some (.own a)) (J:∀ b xs,H b=some (.tup xs)->H' b=some (.tup xs)):ObjOk P w H' h' a o:=by
 induction o with
 | lst xs=>obtain ⟨z,G,n,r,e⟩:=x;exact ⟨z,G,n,r,k _ _ (.inl rfl) e⟩
 | tup xs=>obtain ⟨z,G,r,B,e,c⟩:=x;exact ⟨z,G,r,B,k _ _ (.inl rfl) e,c⟩
 | dK kvs=>obtain ⟨z,y,vs,r,B,es,ep,e,c⟩:=x;exact ⟨z,y,vs,r,B,es,ep,k _ _ (.inl rfl) e,c⟩
 | dT kvs =>
  obtain ⟨z,y,xs,r,B,es,ep,e,c⟩:=x
  exact ⟨z,y,xs,Tn.mapP r fun p q z=>⟨z.1,J _ _ z.2.1,z.2.2⟩,B,es,ep,k _ _ (.inl rfl) e,c⟩
 | set S n=>obtain ⟨B,es,ep,t,e,c⟩:=x;exact ⟨B,es,ep,t,k _ _ (.inl rfl) e,c⟩
 | ins C dx fs =>
  obtain ⟨d,z,ne,e,mA,⟨I,es,ep,Y,c⟩,r⟩:=x
  exact ⟨W _ d,z,ne,k _ _ (.inl rfl) e,mA,⟨I,es,ep,k _ _ (.inr d) Y,c⟩,r⟩
 | own y=>obtain ⟨B,e⟩:=x;exact ⟨B,k _ _ (.inl rfl) e⟩
 | xd fs=>obtain ⟨mA,⟨I,es,ep,e,c⟩,r⟩:=x;exact ⟨mA,⟨I,es,ep,k _ _ (.inl rfl) e,c⟩,r⟩
 | rng lo hi=>obtain ⟨t,u,v,e⟩:=x;exact ⟨t,u,v,k _ _ (.inl rfl) e⟩
 | frz B u ih=>obtain ⟨e,q⟩:=x;exact ⟨k _ _ (.inl rfl) e,ih q⟩
 | tbl ps =>
  have e:h.get? a=some { cls:=.none,data:=.fields ps }:=x
  show h'.get? a=some { cls:=.none,data:=.fields ps }
  exact k a _ (.inl rfl) e
 | met f y =>
  have e:h.get? a=some (Td (.ref f) (.ref y)):=x
  show h'.get? a=some (Td (.ref f) (.ref y))
  exact k a _ (.inl rfl) e
 | ext φ=>obtain ⟨p,⟨o,e⟩,st⟩:=x;exact ⟨st _ _ p fun o q=>k _ _ (.inl rfl) q,⟨o,k _ _ (.inl rfl) e⟩,st⟩
theorem HOk.lt (x:HOk P w H h)(e:H a=some o):a < h.objs.size:=(x a o e).lt
theorem HOk.fresh (x:HOk P w H h)(e:h.objs.size<=a):H a=none:=by
 cases q:H a with
 | none=>rfl
 | some u=>exact absurd (QE (x.lt q) e) (Gz _)
theorem HOk.kept (x:HOk P w H h)(k:∀ b u,h.get? b=some u->h'.get? b=some u):HOk P w H h':=fun a o e =>
 (x a o e).stay (fun b u _ q=>k b u q) (fun _ q=>q) fun _ _ q=>q
theorem HOk.laid (x:HOk P w H h)(k:∀ b u,h.get? b=some u->h'.get? b=some u)(hp:h.objs.size<=a)(new:ObjOk P w (upd H a o) h' a o):HOk P w (upd H a o) h':=fun b u e=>by
 have z:=x.fresh hp
 by_cases B:b=a
 ·subst B;rw [Zh] at e;cases e;exact new
 ·rw [Zi B] at e
  exact (x b u e).stay (fun c v _ q=>k c v q) (fun c q=>by rw [Zi (Zp q z)];exact q) fun c xs q=>by rw [Zi (Zp q z)];exact q
end
def Rd (H:Hp)(a:Addr)(u:HO):Prop:=H a=some u\/∃ o,H a=some (.frz o u)
theorem Rd.ok {P:Qj}{w:Qr}{H:Hp}{h:Heap}{a:Addr}{u:HO}(r:Rd H a u)(x:HOk P w H h):ObjOk P w H h a u:=by
 rcases r with r | ⟨o,r⟩
 ·exact x a u r
 ·obtain ⟨_,q⟩:=x a _ r
  exact q
def Mut:Option HO->Prop
 | some (.lst _)=>True
 | some (.dK _)=>True
 | some (.dT _)=>True
 | some (.set _ _)=>True
 | some (.ins _ _ _)=>True
 | some (.ext _)=>True
 | _=>False
section
variable {P:Qj}{w:Qr}{H:Hp}{h h':Heap}{x e:Addr}{o':HO}
theorem HOk.write (ok:HOk P w H h)(S:Mut (H x))(Z:e=x\/H e=some (.own x))(k:∀ b u,b≠e->h.get? b=some u->h'.get? b=some u)(W:∃ u,h'.get? e=some u)
 (new:ObjOk P w (upd H x o') h' x o'):HOk P w (upd H x o') h':=fun b u q=>by
 have G:∀ c y,H c=some (.own y)->c≠x:=fun c y r z=>by subst z;rw [r] at S;exact S
 have I:∀ c xs,H c=some (.tup xs)->c≠x:=fun c xs r z=>by subst z;rw [r] at S;exact S
 by_cases J:b=x
 ·subst J;rw [Zh] at q;cases q;exact new
 ·rw [Zi J] at q
  by_cases B:b=e
  ·have Y:H b=some (.own x):=by
    rcases Z with z | z
    ·exact absurd (B.trans z) J
    ·rw [B];exact z
   rw [q] at Y;cases Y
   obtain ⟨v,hv⟩:=W
   exact ⟨v,by rw [B];exact hv⟩
  ·refine (ok b u q).stay (fun c v hc r=>k c v ?_ r) (fun c r=>by rw [Zi (G c b r)];exact r) fun c xs r=>by rw [Zi (I c xs r)];exact r
   rcases hc with rfl | hc
   ·exact B
   ·rintro rfl
    rcases Z with z | z
    ·exact G c b hc z
    ·rw [hc] at z;cases z;exact J rfl
end
structure Un (fs ex:List Addr)(H H':Hp)(h h':Heap):Prop where
 keep:∀ b o,h.get? b=some o->H b=none->b ∉ fs->b ∉ ex->h'.get? b=some o
 slot:∀ b o,h.get? b=some o->H b=none->b∈fs->b ∉ ex->∃ sl,h'.get? b=some { o with slots:=sl }
 free:∀ b o,h.get? b=some o->H b=none->b ∉ ex->H' b=none
 there:∀ b o,h.get? b=some o->b ∉ ex->∃ o',h'.get? b=some o'
 tups:∀ b xs,H b=some (.tup xs)->H' b=some (.tup xs)
 frzs:∀ b o u,H b=some (.frz o u)->H' b=some (.frz o u)
 tbls:∀ b ps,H b=some (.tbl ps)->∃ more,H' b=some (.tbl (ps++more))
section
variable {fs fs' ex ex':List Addr}{H H1 H2:Hp}{h h1 h2 h':Heap}{a x e:Addr}{o:HO}
theorem Un.any (u:Un fs ex H H1 h h1){b:Addr}{z:Obj}(q:h.get? b=some z)(n:H b=none)(G:b ∉ ex):∃ I,h1.get? b=some { z with slots:=I }:=by
 by_cases B:b∈fs
 ·exact u.slot b z q n B G
 ·exact ⟨z.slots,u.keep b z q n B G⟩
theorem Un.kept (k:∀ b u,h.get? b=some u->h'.get? b=some u):Un fs ex H H h h' :=
 ⟨fun b z q _ _ _=>k b z q,fun b z q _ _ _=>⟨z.slots,k b z q⟩,fun _ _ _ n _=>n,fun b z q _=>⟨z,k b z q⟩,fun _ _ q=>q,fun _ _ _ q=>q,fun _ ps q=>⟨#[],by rw [q];simp⟩⟩
theorem Un.refl:Un fs ex H H h h:=Un.kept fun _ _ q=>q
theorem Un.laid (k:∀ b u,h.get? b=some u->h'.get? b=some u)(hp:h.objs.size<=a)(z:H a=none):Un fs ex H (upd H a o) h h' where
 keep:=fun b u q _ _ _=>k b u q
 slot:=fun b u q _ _ _=>⟨u.slots,k b u q⟩
 free:=fun b u q n _=>by rw [Zi (Qq (QE (Qf q) hp))];exact n
 there:=fun b u q _=>⟨u,k b u q⟩
 tups:=fun b xs q=>by rw [Zi (Zp q z)];exact q
 frzs:=fun b u xs q=>by rw [Zi (Zp q z)];exact q
 tbls:=fun b ps q=>⟨#[],by rw [Zi (Zp q z),q];simp⟩
theorem Un.write (G:Mut (H x))(Y:e=x\/H e=some (.own x))(k:∀ b u,b≠e->h.get? b=some u->h'.get? b=some u)(J:∃ u,h'.get? e=some u):Un fs ex H (upd H x o) h h':=by
 have W:∀ b,H b=none->b≠x:=fun b n z=>by subst z;rw [n] at G;exact G
 have S:∀ b,H b=none->b≠e:=fun b n z=>by
  subst z
  rcases Y with r | r
  ·exact W b n r
  ·rw [n] at r;cases r
 have I:∀ b u,H b=some u->¬ Mut (some u)->b≠x:=fun b u q nm z=>by subst z;rw [q] at G;exact nm G
 refine ⟨fun b u q n _ _=>k b u (S b n) q,fun b u q n _ _=>⟨u.slots,k b u (S b n) q⟩,fun b u q n _=>by rw [Zi (W b n)];exact n,fun b u q _=>?_,
  fun b xs q=>by rw [Zi (I b _ q fun z=>z)];exact q,fun b u xs q=>by rw [Zi (I b _ q fun z=>z)];exact q,fun b ps q=>⟨#[],by rw [Zi (I b _ q fun z=>z),q];simp⟩⟩
 by_cases B:b=e
 ·subst B;exact J
 ·exact ⟨u,k b u B q⟩
end
def trk (h:Heap)(H:Hp):List Addr:=(QW h.objs.size).filter fun a=>(H a).isSome
def Uu (h:Heap)(H:Hp):Heap:=PySem.W.hideAll h (trk h H)
theorem Zgw (h:Heap)(H:Hp):(Uu h H).objs.size=h.objs.size:=PySem.W.hideAll_size _ _
theorem Zig {h:Heap}{H:Hp}{b:Addr}{o:Obj}(e:h.get? b=some o)(n:H b=none):(Uu h H).get? b=some o :=
 PySem.W.hideAll_get _ e fun z=>by
  have q:(H b).isSome=true:=(mem_filter.mp z).2
  rw [n] at q;simp at q
theorem ZkB {h:Heap}{H:Hp}{b:Addr}{o:Obj}(e:(Uu h H).get? b=some o):h.get? b=some o/\H b=none:=by
 have B:h.get? b=some o:=PySem.W.of_hideAll (trk h H) e
 refine ⟨B,?_⟩
 cases q:H b with
 | none=>rfl
 | some x =>
  have G:b∈trk h H:=mem_filter.mpr ⟨mem_range.mpr (Qf B),by simp [q]⟩
  have z:(Uu h H).get? b=none:=PySem.W.hideAll_none (trk h H) G
  rw [z] at e;cases e
structure Mod (K:Qa)(mg:Str->Option Qb)(base:Heap):Prop where
 kin:K.In base
 glob:base.Ns Qk mg
 blt:∃ mb,base.Ns Sc mb/\∀ x:Str,x≠"__name__"->mb x=Jp x
 nolimit:base.NoLimit
structure Cx where
 prog:Qj
 w:Qr
 K:Qa
 mg:Str->Option Qb
 base:Heap
 A:QG
 N:List Str
 s₀:Qd
 H₀:Hp
 env:Env
 outer:List Env
 stack:List Env
 ex:List Addr
 fn:Str->Bool
 calm:Bool
 pn:List (Addr×Obj)
 xe:Qb->Qd->Prop
def Xi (l:List Env):List Addr:=l.filterMap (·.frame)
abbrev Cx.fs (X:Cx):List Addr:=Xi X.outer
def Vis (sc:Scope)(x:Str):Prop:=sc.names.lookup x=some .local\/sc.names.lookup x=some .cell\/sc.names.lookup x=some .free
def Loc (sc:Scope)(x:Str):Prop:=sc.names.lookup x=some .local\/sc.names.lookup x=some .cell
def Look (env:Env)(h:Heap)(m:Str->Option Qb)(x:Str)(u:Qb):Prop :=
 (env.kindOf x=some .local/\m x=some u)\/((env.kindOf x=some .cell\/env.kindOf x=some .free)/\∃ c,env.cells.lookup x=some c/\h.IsCell c (some u))
structure Cx.Ok (X:Cx):Prop where
 mod:Mod X.K X.mg X.base
 kind:X.env.scope.kind=.function
 glob:X.env.globals=Qk
 blt:X.env.builtins=Sc
 above:X.s₀.heap.objs.size<=X.env.locals
 inj:∀ x y c,X.env.cells.lookup x=some c->X.env.cells.lookup y=some c->x=y
 has:∀ x,(X.env.kindOf x=some .cell\/X.env.kindOf x=some .free)->∃ c,X.env.cells.lookup x=some c
 cab:∀ x c,X.fn x=true->X.env.cells.lookup x=some c->X.s₀.heap.objs.size<=c
 hd:X.calm=true->X.A.handled=none
 frames:X.A.frames=some X.stack
 stk:X.stack=X.outer\/(X.stack=X.env::X.outer/\X.env.frame=some X.env.locals)
 exf:∀ b∈X.ex,b≠X.env.locals/\∀ x c,X.env.cells.lookup x=some c->c≠b
 bs:∀ b o,X.base.get? b=some o->X.s₀.heap.get? b=some o/\X.H₀ b=none
 bsz:X.base.objs.size<=X.s₀.heap.objs.size
 noex:∀ b o,X.base.get? b=some o->b ∉ X.ex
 exfs:∀ b∈X.ex,b ∉ X.fs
 funs:X.s₀.heap.FunFrames X.base X.outer
 frf:∀ b∈X.fs,X.H₀ b=none
structure Inv (X:Cx)(pins:List (Addr×Obj))(σ:List (Option V))(H:Hp)(s:Qd):Prop where
 ok:X.Ok
 os:s.os=X.s₀.os
 bare:PB s.gens
 base:Un X.fs X.ex X.H₀ H X.s₀.heap s.heap
 loc:∃ m,s.heap.Ns X.env.locals m/\∀ (i:Nat) (x:Str) (v:V),X.N[i]?=some x->σ[i]?=some (some v)->Vis X.env.scope x->∃ u,RelV v u/\Look X.env s.heap m x u
 cell:∀ x c,X.env.cells.lookup x=some c->∃ v,s.heap.IsCell c v
 free:H X.env.locals=none
 freeC:∀ x c,X.env.cells.lookup x=some c->H c=none
 pin:∀ p∈X.pn++pins,s.heap.get? p.1=some p.2/\H p.1=none/\p.1≠X.env.locals/\p.1 ∉ X.fs/\∀ v,p.2.data≠.cell v
 hok:HOk X.prog X.w H s.heap
 len:σ.length=X.N.length
section
variable {X:Cx}{pins:List (Addr×Obj)}{σ:List (Option V)}{H H':Hp}{s:Qd}{h':Heap}
theorem Cx.Ok.nofr (ok:X.Ok){b:Addr}{o:Obj}(e:X.base.get? b=some o):b ∉ X.fs:=fun z=>by
 have:=(ok.funs.mem z).1
 rw [e] at this;cases this
theorem Inv.bs (I:Inv X pins σ H s):∀ b o,X.base.get? b=some o->s.heap.get? b=some o/\H b=none:=fun b o e =>
 ⟨I.base.keep b o (I.ok.bs b o e).1 (I.ok.bs b o e).2 (I.ok.nofr e) (I.ok.noex b o e),I.base.free b o (I.ok.bs b o e).1 (I.ok.bs b o e).2 (I.ok.noex b o e)⟩
theorem Inv.bk (I:Inv X pins σ H s):∀ b o,X.base.get? b=some o->s.heap.get? b=some o:=fun b o e=>(I.bs b o e).1
theorem Inv.mod (I:Inv X pins σ H s):Mod X.K X.mg X.base:=I.ok.mod
theorem Inv.kIn (I:Inv X pins σ H s):X.K.In s.heap:=I.ok.mod.kin.keeps I.bk
theorem Inv.nolimit (I:Inv X pins σ H s):s.heap.NoLimit:=I.ok.mod.nolimit.keeps I.bk
theorem Inv.lt (I:Inv X pins σ H s):X.env.locals < s.heap.objs.size:=let ⟨_,hn,_⟩:=I.loc;hn.lt
theorem Inv.sz (I:Inv X pins σ H s):X.s₀.heap.objs.size<=s.heap.objs.size:=Qw I.ok.above (GZ I.lt)
theorem Inv.nofs (I:Inv X pins σ H s){a:Addr}(h:s.heap.objs.size<=a):a ∉ X.fs:=fun B=>by
 obtain ⟨_,o,z,_⟩:=I.ok.funs.mem B
 exact absurd (QE (Qf z) (Qw I.sz h)) (Gz _)
theorem Inv.cne (I:Inv X pins σ H s):∀ x c,X.env.cells.lookup x=some c->c≠X.env.locals:=fun x c e z=>by
 obtain ⟨v,o,S,J⟩:=I.cell x c e
 obtain ⟨m,⟨o',es,ep,G,B,_⟩,_⟩:=I.loc
 rw [z,G] at S;cases S;rw [B] at J;cases J
theorem Inv.funs (I:Inv X pins σ H s):s.heap.FunFrames X.base X.outer:=by
 have all:∀ (l:List Env),(∀ b∈Xi l,b∈X.fs)->X.s₀.heap.FunFrames X.base l->s.heap.FunFrames X.base l:=by
  intro l
  induction l with
  | nil=>intro _ _;trivial
  | cons env r ih =>
   intro S Y
   obtain ⟨Z,⟨L,o,J,hn,ho,hd⟩,W⟩:=Y
   have B:L∈X.fs:=S L (by unfold Xi;rw [filterMap_cons,J];exact mem_cons_self)
   obtain ⟨sl,e⟩:=I.base.slot L o ho (I.ok.frf L B) B fun z=>I.ok.exfs L z B
   exact ⟨Z,⟨L,_,J,hn,e,hd⟩,ih (fun b G=>S b (by unfold Xi;rw [filterMap_cons,J];exact mem_cons_of_mem _ G)) W⟩
 exact all X.outer (fun _ G=>G) I.ok.funs
theorem Inv.stack (I:Inv X pins σ H s):s.heap.FunFrames X.base X.stack:=by
 rcases I.ok.stk with e | ⟨e,z⟩
 ·rw [e];exact I.funs
 ·rw [e]
  obtain ⟨m,B,_⟩:=I.loc
  refine .cons (by rw [I.ok.kind];decide) z B ?_ I.funs
  exact Pc (Qw I.ok.bsz I.ok.above)
theorem Inv.stkSub (I:Inv X pins σ H s):∀ b∈Xi X.stack,b∈X.env.locals::X.fs:=fun b z=>by
 rcases I.ok.stk with e | ⟨e,B⟩
 ·rw [e] at z;exact mem_cons_of_mem _ z
 ·rw [e] at z
  unfold Xi at z
  rw [filterMap_cons,B] at z
  exact z
theorem Inv.stkFree (I:Inv X pins σ H s):∀ b∈Xi X.stack,H b=none:=fun b hb=>by
 rcases mem_cons.mp (I.stkSub b hb) with e | hb
 ·rw [e];exact I.free
 ·obtain ⟨_,o,B,_⟩:=I.ok.funs.mem hb
  exact I.base.free b o B (I.ok.frf b hb) fun z=>I.ok.exfs b z hb
theorem Inv.step {g':Array RS}{t':Nat}{d':Drawn}{ch:List Addr}(I:Inv X pins σ H s)
 (J:∀ b∈ch,(b∈X.ex\/X.s₀.heap.objs.size<=b)/\b≠X.env.locals/\(∀ x c,X.env.cells.lookup x=some c->c≠b)/\∀ p∈X.pn++pins,p.1≠b)
 (keep:∀ b o,b≠X.env.locals->b ∉ X.fs->b ∉ ch->s.heap.get? b=some o->H b=none->h'.get? b=some o)
 (Z:∀ b o,b≠X.env.locals->b∈X.fs->b ∉ ch->s.heap.get? b=some o->H b=none->∃ sl,h'.get? b=some { o with slots:=sl }) (G:∀ b o,b ∉ ch->s.heap.get? b=some o->H b=none->H' b=none)
 (there:∀ b o,b ∉ ch->s.heap.get? b=some o->∃ o',h'.get? b=some o')
 (tups:∀ b xs,H b=some (.tup xs)->H' b=some (.tup xs)) (frzs:∀ b o u,H b=some (.frz o u)->H' b=some (.frz o u)) (tbls:∀ b ps,H b=some (.tbl ps)->∃ more,H' b=some (.tbl (ps++more)))
 (ns:∀ m,s.heap.Ns X.env.locals m->h'.Ns X.env.locals m) (hok:HOk X.prog X.w H' h') (hg:PB g') :
 Inv X pins σ H' { s with heap:=h',gens:=g',drawn:=d',toks:=t' }:=by
 have neL:∀ b o,X.s₀.heap.get? b=some o->b≠X.env.locals:=fun b o e=>Qq (QE (Qf e) I.ok.above)
 have Y:∀ b o,X.s₀.heap.get? b=some o->b ∉ X.ex->b ∉ ch:=fun b o e B hb=>by
  rcases (J b hb).1 with z | z
  ·exact B z
  ·exact absurd (QE (Qf e) z) (Gz _)
 have W:∀ x c,X.env.cells.lookup x=some c->∀ v,s.heap.IsCell c v->h'.IsCell c v:=fun x c e v ⟨o,ho,hd⟩=>by
  have S:c ∉ ch:=fun z=>(J c z).2.2.1 x c e rfl
  by_cases hc:c∈X.fs
  ·obtain ⟨sl,q⟩:=Z c o (I.cne x c e) hc S ho (I.freeC x c e)
   exact ⟨_,q,hd⟩
  ·exact ⟨o,keep c o (I.cne x c e) hc S ho (I.freeC x c e),hd⟩
 refine ⟨I.ok,I.os,hg,⟨fun b o e n hb B=>?_,fun b o e n hb B=>?_,fun b o e n B=>?_,fun b o e B=>?_,fun b xs e=>tups b xs (I.base.tups b xs e),fun b o xs e=>frzs b o xs (I.base.frzs b o xs e),fun b ps e=>?_⟩,?_,fun x c e=>?_,?_,fun x c e=>?_,fun p hp=>?_,hok,I.len⟩
 ·exact keep b o (neL b o e) hb (Y b o e B) (I.base.keep b o e n hb B) (I.base.free b o e n B)
 ·obtain ⟨sl,e1⟩:=I.base.slot b o e n hb B
  obtain ⟨sl',e2⟩:=Z b _ (neL b o e) hb (Y b o e B) e1 (I.base.free b o e n B)
  exact ⟨sl',e2⟩
 ·obtain ⟨o',e1⟩:=I.base.there b o e B
  exact G b o' (Y b o e B) e1 (I.base.free b o e n B)
 ·obtain ⟨o',e1⟩:=I.base.there b o e B
  exact there b o' (Y b o e B) e1
 ·obtain ⟨m1,e1⟩:=I.base.tbls b ps e
  obtain ⟨m2,e2⟩:=tbls b _ e1
  exact ⟨m1++m2,by rw [e2,Array.append_assoc]⟩
 ·obtain ⟨m,hn,hl⟩:=I.loc
  refine ⟨m,ns m hn,fun i x v e1 e2 e3=>?_⟩
  obtain ⟨u,r,l⟩:=hl i x v e1 e2 e3
  refine ⟨u,r,?_⟩
  rcases l with l | ⟨k,c,e,z⟩
  ·exact .inl l
  ·exact .inr ⟨k,c,e,W x c e _ z⟩
 ·obtain ⟨v,z⟩:=I.cell x c e
  exact ⟨v,W x c e v z⟩
 ·obtain ⟨m,⟨o,_,_,ho,_⟩,_⟩:=I.loc
  exact G _ o (fun z=>(J _ z).2.1 rfl) ho I.free
 ·obtain ⟨v,o,ho,hd⟩:=I.cell x c e
  exact G c o (fun z=>(J c z).2.2.1 x c e rfl) ho (I.freeC x c e)
 ·obtain ⟨e,n,ne,nf,d⟩:=I.pin p hp
  have S:p.1 ∉ ch:=fun z=>(J p.1 z).2.2.2 p hp rfl
  exact ⟨keep p.1 p.2 ne nf S e n,G p.1 p.2 S e n,ne,nf,d⟩
theorem Inv.un {t':Nat}(I:Inv X pins σ H s)(u:Un X.fs [] H H' s.heap h')(hok:HOk X.prog X.w H' h'):Inv X pins σ H' { s with heap:=h',toks:=t' }:=by
 obtain ⟨m,⟨o,es,ep,W,r⟩,_⟩:=id I.loc
 obtain ⟨sl,Y⟩:=u.any W I.free (by simp)
 exact I.step (g':=s.gens) (d':=s.drawn) (ch:=[]) (fun _ z=>nomatch z) (fun b o _ G _ e n=>u.keep b o e n G (by simp)) (fun b o _ G _ e n=>u.slot b o e n G (by simp)) (fun b o _ e n=>u.free b o e n (by simp)) (fun b o _ e=>u.there b o e (by simp)) u.tups u.frzs u.tbls (fun m' Z=>by
  obtain ⟨o',J,S,B,r'⟩:=Z
  rw [W] at B;cases B
  exact ⟨_,J,S,Y,r'⟩) hok I.bare
theorem Inv.call {g':Array RS}{t':Nat}{d':Drawn}{ch:List Addr}(I:Inv X pins σ H s)(u:Un (Xi X.stack) ch H H' s.heap h')(hok:HOk X.prog X.w H' h')(hg:PB g')
 (G:∀ b∈ch,(b∈X.ex\/X.s₀.heap.objs.size<=b)/\b≠X.env.locals/\(∀ x c,X.env.cells.lookup x=some c->c≠b)/\∀ p∈X.pn++pins,p.1≠b) :
 Inv X pins σ H' { s with heap:=h',gens:=g',drawn:=d',toks:=t' }:=by
 obtain ⟨m,⟨o,es,ep,Z,r⟩,_⟩:=id I.loc
 obtain ⟨sl,S⟩:=u.any Z I.free fun z=>(G _ z).2.1 rfl
 exact I.step (ch:=ch) G (fun b o S hb B e n=>u.keep b o e n (fun z=>(mem_cons.mp (I.stkSub b z)).elim S hb) B) (fun b o _ _ B e n=>u.any e n B) (fun b o B e n=>u.free b o e n B) (fun b o B e=>u.there b o e B) u.tups u.frzs u.tbls (fun m' hm=>by
  obtain ⟨o',W,Y,J,r'⟩:=hm
  rw [Z] at J;cases J
  exact ⟨_,W,Y,S,r'⟩) hok hg
theorem Inv.turned {t':Nat}{B:Addr}(I:Inv X pins σ H s)(k:∀ b o,b≠B->s.heap.get? b=some o->h'.get? b=some o)(hn:H B=none)(S:B≠X.env.locals)
 (h1:B∈X.ex\/X.s₀.heap.objs.size<=B) (h2:∀ x c,X.env.cells.lookup x=some c->c≠B) (Z:∀ p∈X.pn++pins,p.1≠B):Inv X pins σ H { s with heap:=h',toks:=t' }:=by
 have J:∀ b u,H b=some u->b≠B:=fun b u e z=>by rw [z,hn] at e;cases e
 refine I.step (g':=s.gens) (d':=s.drawn) (ch:=[B]) (fun b W=>?_) (fun b o _ _ G e _=>k b o (fun z=>G (by simp [z])) e) (fun b o _ _ G e _=>⟨o.slots,k b o (fun z=>G (by simp [z])) e⟩) (fun _ _ _ _ n=>n)
  (fun b o G e=>⟨o,k b o (fun z=>G (by simp [z])) e⟩) (fun _ _ e=>e) (fun _ _ _ e=>e) (fun b ps e=>⟨#[],by rw [e];simp⟩) (fun m Y=>?_) (fun b u e=>?_) I.bare
 ·have e:b=B:=by simpa using W
  subst e
  exact ⟨h1,S,h2,Z⟩
 ·obtain ⟨o,es,ep,ho,r⟩:=Y
  exact ⟨o,es,ep,k _ o (Gg S) ho,r⟩
 ·refine (I.hok b u e).stay (fun c v G q=>k c v ?_ q) (fun _ q=>q) fun _ _ q=>q
  rcases G with z | z
  ·rw [z];exact J b u e
  ·exact J c _ z
theorem Inv.tok (I:Inv X pins σ H s)(t:Nat):Inv X pins σ H { s with toks:=t }:=I.un (h':=s.heap) (t':=t) Un.refl I.hok
theorem Inv.kept {t':Nat}(I:Inv X pins σ H s)(k:∀ b u,s.heap.get? b=some u->h'.get? b=some u):Inv X pins σ H { s with heap:=h',toks:=t' }:=I.un (Un.kept k) (I.hok.kept k)
theorem Inv.laid {a:Addr}{o:HO}{t':Nat}(I:Inv X pins σ H s)(k:∀ b u,s.heap.get? b=some u->h'.get? b=some u)(hp:s.heap.objs.size<=a)(new:ObjOk X.prog X.w (upd H a o) h' a o) :
 Inv X pins σ (upd H a o) { s with heap:=h',toks:=t' }:=I.un (Un.laid k hp (I.hok.fresh hp)) (I.hok.laid k hp new)
theorem Inv.write {x e:Addr}{o:HO}{t':Nat}(I:Inv X pins σ H s)(G:Mut (H x))(B:e=x\/H e=some (.own x))(k:∀ b u,b≠e->s.heap.get? b=some u->h'.get? b=some u)(z:∃ u,h'.get? e=some u)
 (new:ObjOk X.prog X.w (upd H x o) h' x o):Inv X pins σ (upd H x o) { s with heap:=h',toks:=t' }:=I.un (Un.write G B k z) (I.hok.write G B k z new)
theorem Inv.pins_of {B:List (Addr×Obj)}(I:Inv X pins σ H s)(h:∀ p∈B,s.heap.get? p.1=some p.2/\H p.1=none/\p.1≠X.env.locals/\p.1 ∉ X.fs/\∀ v,p.2.data≠.cell v):Inv X B σ H s :=
 ⟨I.ok,I.os,I.bare,I.base,I.loc,I.cell,I.free,I.freeC,fun p hp=>(mem_append.mp hp).elim (fun z=>I.pin p (Jl _ z)) (h p),I.hok,I.len⟩
theorem Zab {N:List Str}(z:N.Nodup){i j:Nat}{x:Str}(a:N[i]?=some x)(b:N[j]?=some x):i=j:=by
 obtain ⟨h1,e1⟩:=Qn.mp a
 obtain ⟨h2,B⟩:=Qn.mp b
 exact (List.getElem_inj z).mp (e1.trans B.symm)
theorem ZbJ {M:Rm}{A:QG}{E:Qb->Qd->Prop}{i:Nat}{x:Str}{v:V}{u:Qb}{Q:Unit->Qd->Prop}(I:Inv X pins σ H s)(hN:X.N.Nodup)(hi:X.N[i]?=some x)(J:Loc X.env.scope x)(r:RelV v u)
 (h:∀ s',Inv X pins (σ.set i (some v)) H s'->(∃ a,Sd a s.heap s'.heap/\(a=X.env.locals\/X.env.cells.lookup x=some a))->Q () s') (hf:X.fn x=true\/X.env.scope.names.lookup x=some .local:=by first | exact .inl rfl | exact .inr rfl | assumption):Qp M A (storeName X.env x u) Q E s:=by
 obtain ⟨m,hn,hl⟩:=id I.loc
 have hcls:(X.env.scope.kind == .class || (X.env.scope.kind == .module&&X.env.locals != X.env.globals))=false:=by rw [I.ok.kind];rfl
 have Y:i < σ.length:=by rw [I.len];exact (Qn.mp hi).1
 have cne:=I.cne
 have G:∀ {a:Addr} {h':Heap},(∃ o,s.heap.get? a=some o/\H a=none)->Sd a s.heap h'->HOk X.prog X.w H h':=fun {a h'} ha B b ob e=>by
  obtain ⟨_,_,S⟩:=ha
  refine (I.hok b ob e).stay (fun c w' hc q=>(B.2 c ?_).trans q) (fun _ q=>q) fun _ _ q=>q
  rintro rfl
  rcases hc with rfl | hc
  ·rw [S] at e;cases e
  ·rw [S] at hc;cases hc
 rcases J with hk | hk
 ·refine wpAny_storeName_local hk hn (fun h' hn' B=>?_) hcls
  obtain ⟨oL,_,_,hoL,_⟩:=id hn
  refine h _ ⟨I.ok,I.os,I.bare,⟨fun b o e n hb J=>?_,fun b o e n hb J=>?_,I.base.free,fun b o e J=>?_,I.base.tups,I.base.frzs,I.base.tbls⟩,⟨_,hn',fun j y v' e1 W e3=>?_⟩,fun y c e=>?_,I.free,I.freeC,fun p hp=>?_,G ⟨oL,hoL,I.free⟩ B,by simpa using I.len⟩ ⟨_,B,.inl rfl⟩
  ·exact (B.2 b (Qq (QE (Qf e) I.ok.above))).trans (I.base.keep b o e n hb J)
  ·obtain ⟨sl,e1⟩:=I.base.slot b o e n hb J
   exact ⟨sl,(B.2 b (Qq (QE (Qf e) I.ok.above))).trans e1⟩
  ·obtain ⟨o',e1⟩:=I.base.there b o e J
   exact ⟨o',(B.2 b (Qq (QE (Qf e) I.ok.above))).trans e1⟩
  ·by_cases hj:j=i
   ·subst hj
    rw [hi] at e1;cases e1
    rw [Se Y] at W
    cases W
    exact ⟨u,r,.inl ⟨hk,by simp⟩⟩
   ·rw [Pd (Gg hj)] at W
    obtain ⟨u',r',q⟩:=hl j y v' e1 W e3
    refine ⟨u',r',?_⟩
    rcases q with ⟨k,e⟩ | ⟨k,c,e,z⟩
    ·refine .inl ⟨k,?_⟩
     have:y≠x:=fun e=>hj (Zab hN e1 (e ▸ hi))
     simp [this,e]
    ·exact .inr ⟨k,c,e,z.sameBut B (cne y c e)⟩
  ·obtain ⟨w',z⟩:=I.cell y c e
   exact ⟨w',z.sameBut B (cne y c e)⟩
  ·obtain ⟨e,n,ne,nf,d⟩:=I.pin p hp
   exact ⟨(B.2 p.1 ne).trans e,n,ne,nf,d⟩
 ·have Z:X.fn x=true:=by
   rcases hf with z | z
   ·exact z
   ·rw [z] at hk;cases hk
  obtain ⟨c,hc⟩:=I.ok.has x (.inl hk)
  obtain ⟨w',z⟩:=I.cell x c hc
  refine wpAny_storeName_cell I.ok.kind hk hc z (fun h' hc' B=>?_)
  obtain ⟨oc,hoc,hocd⟩:=id z
  refine h { s with heap:=h' } ⟨I.ok,I.os,I.bare,⟨fun b o e n hb J=>?_,fun b o e n hb J=>?_,I.base.free,fun b o e J=>?_,I.base.tups,I.base.frzs,I.base.tbls⟩,⟨m,hn.sameBut B (Gg (cne x c hc)),fun j y v' e1 W e3=>?_⟩,fun y c' e=>?_,I.free,I.freeC,fun p hp=>?_,G ⟨oc,hoc,I.freeC x c hc⟩ B,by simpa using I.len⟩ ⟨c,B,.inr hc⟩
  ·exact (B.2 b (Qq (QE (Qf e) (I.ok.cab x c Z hc)))).trans (I.base.keep b o e n hb J)
  ·obtain ⟨sl,e1⟩:=I.base.slot b o e n hb J
   exact ⟨sl,(B.2 b (Qq (QE (Qf e) (I.ok.cab x c Z hc)))).trans e1⟩
  ·obtain ⟨o',e1⟩:=I.base.there b o e J
   exact ⟨o',(B.2 b (Qq (QE (Qf e) (I.ok.cab x c Z hc)))).trans e1⟩
  ·by_cases hj:j=i
   ·subst hj
    rw [hi] at e1;cases e1
    rw [Se Y] at W
    cases W
    exact ⟨u,r,.inr ⟨.inl hk,c,hc,hc'⟩⟩
   ·rw [Pd (Gg hj)] at W
    obtain ⟨u',r',q⟩:=hl j y v' e1 W e3
    refine ⟨u',r',?_⟩
    rcases q with q | ⟨k,c',e,z'⟩
    ·exact .inl q
    ·refine .inr ⟨k,c',e,z'.sameBut B ?_⟩
     rintro rfl
     exact hj (Zab hN e1 (I.ok.inj _ _ _ e hc ▸ hi))
  ·by_cases hcc:c'=c
   ·subst hcc;exact ⟨_,hc'⟩
   ·obtain ⟨w2,z2⟩:=I.cell y c' e
    exact ⟨w2,z2.sameBut B hcc⟩
  ·obtain ⟨e,n,ne,nf,d⟩:=I.pin p hp
   refine ⟨(B.2 p.1 ?_).trans e,n,ne,nf,d⟩
   intro q
   rw [q,hoc] at e
   have q':oc=p.2:=Qv e
   exact d w' (by rw [<- q'];exact hocd)
theorem Xe {M:Rm}{A:QG}{E:Qb->Qd->Prop}{i:Nat}{x:Str}{v:V}{u:Qb}{Q:Unit->Qd->Prop}(I:Inv X pins σ H s)(z:X.N.Nodup)(hi:X.N[i]?=some x)(J:Loc X.env.scope x)(r:RelV v u)
 (h:∀ s',Inv X pins (σ.set i (some v)) H s'->Q () s') (G:X.fn x=true\/X.env.scope.names.lookup x=some .local:=by first | exact .inl rfl | exact .inr rfl | assumption):Qp M A (storeName X.env x u) Q E s :=
 ZbJ I z hi J r (fun s' B _=>h s' B) G
theorem Inv.call' {s':Qd}{ch:List Addr}(I:Inv X pins σ H s)(G:s'.os=s.os)(u:Un (Xi X.stack) ch H H' s.heap s'.heap)(hok:HOk X.prog X.w H' s'.heap)(B:PB s'.gens)
 (z:∀ b∈ch,(b∈X.ex\/X.s₀.heap.objs.size<=b)/\b≠X.env.locals/\(∀ x c,X.env.cells.lookup x=some c->c≠b)/\∀ p∈X.pn++pins,p.1≠b):Inv X pins σ H' s':=by
 obtain ⟨h',g',d',t',o'⟩:=s'
 have e:o'=s.os:=G
 subst e
 exact I.call (g':=g') (t':=t') (d':=d') u hok B z
end
abbrev XK:=Qb->Option Addr->Hp->Prop
abbrev St:=List (Option V)
abbrev VK:=V->Hp->Prop
abbrev TE:=St->Hp->VK->Prop
abbrev TT:=St->Hp->(Bool->Hp->Prop)->Prop
abbrev TA:=St->Hp->(List V->Hp->Prop)->Prop
structure YN where
 nx:St->Hp->Prop
 rt:VK
 bk:St->Hp->Prop:=fun _ _=>False
 ct:St->Hp->Prop:=fun _ _=>False
abbrev TS:=YN->St->Hp->Prop
def EP (X:Cx)(pins:List (Addr×Obj))(σ:St)(Q:VK)(u:Qb)(s':Qd):Prop:=∃ v H',Inv X pins σ H' s'/\RelV v u/\Q v H'
def TP (X:Cx)(pins:List (Addr×Obj))(σ:St)(Q:Bool->Hp->Prop)(b:Bool)(s':Qd):Prop:=∃ H',Inv X pins σ H' s'/\Q b H'
def AP (X:Cx)(pins:List (Addr×Obj))(σ:St)(Q:List V->Hp->Prop)(us:List Qb)(s':Qd):Prop:=∃ vs H',Inv X pins σ H' s'/\Vals vs us/\Q vs H'
def SP (X:Cx)(pins:List (Addr×Obj))(D:YN)(f:Flow)(s':Qd):Prop :=
 match f with
 | .next=>∃ σ' H',Inv X pins σ' H' s'/\D.nx σ' H'
 | .brk=>∃ σ' H',Inv X pins σ' H' s'/\D.bk σ' H'
 | .cont=>∃ σ' H',Inv X pins σ' H' s'/\D.ct σ' H'
 | .ret u=>∃ v σ' H',Inv X pins σ' H' s'/\RelV v u/\D.rt v H'
def PE (X:Cx)(e:Expr)(t:TE):Prop :=
 ∀ (pins:List (Addr×Obj)) (s:Qd) (σ:St) (H:Hp) (Q:VK),Inv X pins σ H s->t σ H Q->Qp (Qs X.prog X.w) X.A (eval e X.env) (EP X pins σ Q) X.xe s
def PT (X:Cx)(e:Expr)(t:TT):Prop :=
 ∀ (pins:List (Addr×Obj)) (s:Qd) (σ:St) (H:Hp) (Q:Bool->Hp->Prop),Inv X pins σ H s->t σ H Q->Qp (Qs X.prog X.w) X.A (isTrue e X.env (eval e X.env)) (TP X pins σ Q) X.xe s
def PW (X:Cx)(e:Expr)(t:TT):Prop :=
 ∀ (whole:Sem Qb) (pins:List (Addr×Obj)) (s:Qd) (σ:St) (H:Hp) (Q:Bool->Hp->Prop),Inv X pins σ H s->t σ H Q->Qp (Qs X.prog X.w) X.A (isTrue e X.env whole) (TP X pins σ Q) X.xe s
theorem PW.pt {X:Cx}{e:Expr}{t:TT}(h:PW X e t):PT X e t:=h _
def PA (X:Cx)(es:List Expr)(t:TA):Prop :=
 ∀ (pos:Pos) (pins:List (Addr×Obj)) (s:Qd) (σ:St) (H:Hp) (Q:List V->Hp->Prop),Inv X pins σ H s->t σ H Q->Qp (Qs X.prog X.w) X.A (spliced (GP pos (Qz es X.env))) (AP X pins σ Q) X.xe s
def PS (X:Cx)(st:Stmt)(t:TS):Prop :=
 ∀ (pins:List (Addr×Obj)) (s:Qd) (σ:St) (H:Hp) (D:YN),Inv X pins σ H s->t D σ H->Qp (Qs X.prog X.w) X.A (exec st X.env) (SP X pins D) X.xe s
def PSs (X:Cx)(st:List Stmt)(t:TS):Prop :=
 ∀ (pins:List (Addr×Obj)) (s:Qd) (σ:St) (H:Hp) (D:YN),Inv X pins σ H s->t D σ H->Qp (Qs X.prog X.w) X.A (execs st X.env) (SP X pins D) X.xe s
theorem Zu {B:Type}{t:Sem B}{Q z:B->Qd->Prop}{M:Rm}{A:QG}{E:Qb->Qd->Prop}{s:Qd}(h:Qp M A t Q E s)(G:∀ a s,Q a s->z a s):Qp M A t z E s:=QX h G fun _ _ x=>x
section
variable {X:Cx}
def ZcS (i:Nat):TE:=fun σ H Q=>∃ v,σ[i]?=some (some v)/\Q v H
def tC (v:V):TE:=fun _ H Q=>Q v H
theorem ZlA {i:Nat}{x:Str}{pos:Pos}(W:X.N[i]?=some x)(hv:Vis X.env.scope x)(J:(x == ("__debug__":Str))=false:=by decide)(G:(x == ("__classdict__":Str))=false:=by decide):PE X (.Name x pos) (ZcS i):=by
 intro pins s σ H Q I h
 obtain ⟨v,e,h⟩:=h
 obtain ⟨m,hn,Y⟩:=I.loc
 obtain ⟨u,r,l⟩:=Y i x v W e hv
 have B:EP X pins σ Q u s:=⟨v,H,I,r,h⟩
 rcases l with ⟨hk,Z⟩ | ⟨hk,c,S,z⟩
 ·exact Ry (Pe I.ok.kind hk hn Z B) J
 ·rcases hk with hk | hk
  ·exact Ry (Re I.ok.kind hk S z B) J
  ·exact Ry (wpAny_loadName_free I.ok.kind hk S z B G) J
theorem Ze {i j pos}:PE X (.Constant (.int i) j pos) (tC (.int i)):=fun _ _ _ H _ I h=>Rz ⟨.int i,H,I.tok _,⟨_,rfl⟩,h⟩
theorem VG {b j pos}:PE X (.Constant (.bool b) j pos) (tC (.bl b)):=fun _ _ _ H _ I h=>Constant_bool ⟨.bl b,H,I,rfl,h⟩
theorem Ue {j pos}:PE X (.Constant .none j pos) (tC .non):=fun _ _ _ H _ I h=>Rn ⟨.non,H,I,rfl,h⟩
theorem ZK {x j pos}:PE X (.Constant (.str x) j pos) (tC (.str x)):=fun _ _ _ H _ I h=>Calls.Constant_str ⟨.str x,H,I.tok _,⟨_,rfl⟩,h⟩
def Gl (X:Cx)(x:Str):Prop:=X.env.kindOf x=some .globalImplicit
theorem WM {E:Qb->Qd->Prop}{pins:List (Addr×Obj)}{s:Qd}{σ:St}{H:Hp}{x:Str}{u:Qb}{pos:Pos}{Q:Qb->Qd->Prop}(I:Inv X pins σ H s)(B:Gl X x)(G:X.mg x=some u)(h:Q u s)
 (z:(x == ("__debug__":Str))=false:=by decide):Qp (Qs X.prog X.w) X.A (eval (.Name x pos) X.env) Q E s :=
 PL I.ok.kind B (Calls.loadGlobal_global (by rw [I.ok.glob];exact I.mod.glob.keeps I.bk) G h) z
theorem Ww {E:Qb->Qd->Prop}{pins:List (Addr×Obj)}{s:Qd}{σ:St}{H:Hp}{x:Str}{u:Qb}{pos:Pos}{Q:Qb->Qd->Prop}(I:Inv X pins σ H s)(z:Gl X x)(B:X.mg x=none)(G:Jp x=some u)(h:Q u s)
 (S:x≠"__name__":=by decide) (J:(x == ("__debug__":Str))=false:=by decide):Qp (Qs X.prog X.w) X.A (eval (.Name x pos) X.env) Q E s:=by
 obtain ⟨W,h1,h2⟩:=I.mod.blt
 exact PL I.ok.kind z (Calls.loadGlobal_builtin (by rw [I.ok.glob];exact I.mod.glob.keeps I.bk) B (by rw [I.ok.blt];exact h1.keeps I.bk) ((h2 x S).trans G) h) J
theorem ZT {x:Str}{v:V}{u:Qb}{pos:Pos}(B:Gl X x)(G:X.mg x=some u)(r:RelV v u)(z:(x == ("__debug__":Str))=false:=by decide):PE X (.Name x pos) (tC v) :=
 fun _ _ _ H _ I h=>WM I B G ⟨v,H,I,r,h⟩ z
theorem Zby {x:Str}{v:V}{u:Qb}{pos:Pos}(z:Gl X x)(B:X.mg x=none)(G:Jp x=some u)(r:RelV v u)(S:x≠"__name__":=by decide)(J:(x == ("__debug__":Str))=false:=by decide):PE X (.Name x pos) (tC v) :=
 fun _ _ _ H _ I h=>Ww I z B G ⟨v,H,I,r,h⟩ S J
variable {a b:Expr}{ta tb:TE}{pos:Pos}
def PC (X:Cx)(op:CmpOp)(a b:Expr)(t:TE):Prop :=
 ∀ (pins:List (Addr×Obj)) (s:Qd) (σ:St) (H:Hp) (Q:VK),Inv X pins σ H s->t σ H Q ->
  Qp (Qs X.prog X.w) X.A (eval a X.env) (fun v s₁=>Qp (Qs X.prog X.w) X.A (eval b X.env) (fun u s₂=>Qp (Qs X.prog X.w) X.A (Gu op v u) (EP X pins σ Q) X.xe s₂) X.xe s₁) X.xe s
theorem ZcE (b:Expr){z:CmpOp}(h:z≠.In)(h2:z≠.NotIn):GQ z b=false:=by
 have e1:(z == CmpOp.In)=false:=by cases z<;>first | rfl | exact absurd rfl h
 have B:(z == CmpOp.NotIn)=false:=by cases z<;>first | rfl | exact absurd rfl h2
 cases b<;>simp [GQ,e1,B]
def tIsN (ta:TE):TE:=fun σ H Q=>ta σ H fun x H1=>Q (.bl (decide (x=.non))) H1
def Znk (ta:TE):TE:=fun σ H Q=>ta σ H fun x H1=>Q (.bl (!decide (x=.non))) H1
theorem RelV.none_iff {x:V}{v:Qb}(r:RelV x v):(v == QR)=decide (x=.non):=by
 cases x with
 | non=>cases r;rfl
 | bl _=>cases r;rfl
 | int _=>obtain ⟨t,rfl⟩:=r;rfl
 | str _=>obtain ⟨t,rfl⟩:=r;rfl
 | byt _=>obtain ⟨t,rfl⟩:=r;rfl
 | flt _=>obtain ⟨t,rfl⟩:=r;rfl
 | ref _=>cases r;rfl
 | ty _=>cases r;rfl
theorem Zdu {j pos'}(B:PE X a ta):PC X .Is a (.Constant .none j pos') (tIsN ta):=by
 intro pins s σ H Q I h
 refine Zu (B pins s σ H _ I h) fun v s1 ⟨x,H1,G,J,z⟩=>?_
 exact Rn (is_none_gen ⟨.bl _,H1,G,by rw [J.none_iff];rfl,z⟩)
theorem UA {j pos'}(B:PE X a ta):PC X .IsNot a (.Constant .none j pos') (Znk ta):=by
 intro pins s σ H Q I h
 refine Zu (B pins s σ H _ I h) fun v s1 ⟨x,H1,G,J,z⟩=>?_
 exact Rn (isnot_none_gen ⟨.bl _,H1,G,by rw [J.none_iff];rfl,z⟩)
def tB (t:TE):TT:=fun σ H Q=>t σ H fun x H1=>∃ c,x=.bl c/\Q c H1
theorem ZlM {z:CmpOp}{t:TE}(h:PC X z a b t)(h1:GQ z b=false:=by first | exact ZcE _ (by decide) (by decide) | rfl):PE X (.Compare a [z] [b] pos) t:=fun pins s σ H Q I B=>wpAny_Compare1 (h pins s σ H Q I B) h1
theorem WB {z:CmpOp}{t:TE}(h:PC X z a b t)(h1:GQ z b=false:=by first | exact ZcE _ (by decide) (by decide) | rfl):PT X (.Compare a [z] [b] pos) (tB t):=by
 intro pins s σ H Q I S
 refine Sz (Zu (h pins s σ H _ I S) fun v s1 h1=>Zu h1 fun u s2 h2=>Zu h2 fun c W ⟨x,H1,G,J,B⟩=>?_) h1
 obtain ⟨d,rfl,q⟩:=B
 cases J
 exact QY ⟨H1,G,q⟩
theorem XD {e:Expr}{t:TE}(h:PE X e t)(S:∀ z,isTrue e X.env z=(do let v <- z;Te e.pos;JB [v] (truthy v)):=by intro _;rfl):PT X e (tB t):=by
 intro pins s σ H Q I W
 refine isTrue_plain (Zu (h pins s σ H _ I W) fun v s1 ⟨x,H1,G,J,B⟩=>?_) (S _)
 obtain ⟨d,rfl,q⟩:=B
 cases J
 exact QY ⟨H1,G,q⟩
variable {tA tB':TT}{rest:List Expr}
def tAnd (t u:TT):TT:=fun σ H Q=>t σ H fun c H1=>if c=true then u σ H1 Q else Q false H1
def tOr (t u:TT):TT:=fun σ H Q=>t σ H fun c H1=>if c=true then Q true H1 else u σ H1 Q
def tNot (t:TT):TT:=fun σ H Q=>t σ H fun c H1=>Q (!c) H1
theorem Zbw (z:PT X a tA):PW X (.BoolOp .And [a] pos) tA:=by
 intro B pins s σ H Q I h
 refine isTrue_and (Zu (z pins s σ H Q I h) fun c s1 e=>?_)
 cases c with
 | true=>exact isTrue_and_nil e
 | false=>exact e
theorem ZcU (z:PT X a tA):PW X (.BoolOp .Or [a] pos) tA:=by
 intro B pins s σ H Q I h
 refine isTrue_or (Zu (z pins s σ H Q I h) fun c s1 e=>?_)
 cases c with
 | false=>exact isTrue_or_nil e
 | true=>exact e
theorem ZdL (J:PT X a tA)(S:PW X (.BoolOp .And (b::rest) pos) tB'):PW X (.BoolOp .And (a::b::rest) pos) (tAnd tA tB'):=by
 intro G pins s σ H Q I h
 refine isTrue_and (Zu (J pins s σ H _ I h) fun c s1 ⟨H1,B,z⟩=>?_)
 cases c with
 | true=>exact S G pins s1 σ H1 Q B z
 | false=>exact ⟨H1,B,z⟩
theorem Zfs (J:PT X a tA)(S:PW X (.BoolOp .Or (b::rest) pos) tB'):PW X (.BoolOp .Or (a::b::rest) pos) (tOr tA tB'):=by
 intro G pins s σ H Q I h
 refine isTrue_or (Zu (J pins s σ H _ I h) fun c s1 ⟨H1,B,z⟩=>?_)
 cases c with
 | true=>exact ⟨H1,B,z⟩
 | false=>exact S G pins s1 σ H1 Q B z
theorem Vz (z:PT X a tA):PT X (.UnaryOp .Not a pos) (tNot tA):=by
 intro pins s σ H Q I h
 exact isTrue_not (z pins s σ H (fun c H1=>Q (!c) H1) I h)
def ZmJ (ta tb:TE):TE:=fun σ H Q=>ta σ H fun x H1=>∃ c,x=.bl c/\if c=true then tb σ H1 Q else Q (.bl false) H1
def Zni (ta:TE):TE:=fun σ H Q=>ta σ H fun x H1=>∃ c,x=.bl c/\Q (.bl (!c)) H1
theorem Zbc {op}{t:TE}(h:PE X a t):PE X (.BoolOp op [a] pos) t:=fun pins s σ H Q I z=>BoolOp_one (h pins s σ H Q I z)
theorem Uy (G:PE X a ta)(J:PE X (.BoolOp .And (b::rest) pos) tb):PE X (.BoolOp .And (a::b::rest) pos) (ZmJ ta tb):=by
 intro pins s σ H Q I h
 refine BoolOp_and (Zu (G pins s σ H _ I h) fun v s1 ⟨x,H1,B,S,z⟩=>?_)
 obtain ⟨c,rfl,z⟩:=z
 cases S
 refine QY ?_
 cases c with
 | true=>exact J pins s1 σ H1 Q B z
 | false=>exact ⟨.bl false,H1,B,rfl,z⟩
theorem Zmw (B:PE X a ta):PE X (.UnaryOp .Not a pos) (Zni ta):=by
 intro pins s σ H Q I h
 refine UnaryOp_ (Zu (B pins s σ H _ I h) fun v s1 ⟨x,H1,G,J,z⟩=>?_)
 obtain ⟨c,rfl,z⟩:=z
 cases J
 exact not_of (QY ⟨.bl (!c),H1,G,rfl,z⟩)
def tIf (t:TT)(ta tb:TE):TE:=fun σ H Q=>t σ H fun c H1=>if c=true then ta σ H1 Q else tb σ H1 Q
theorem XJ {c:Expr}(S:PT X c tA)(G:PE X a ta)(J:PE X b tb):PE X (.IfExp c a b pos) (tIf tA ta tb):=by
 intro pins s σ H Q I h
 refine wpAny_IfExp (Zu (S pins s σ H _ I h) fun d s1 ⟨H1,B,z⟩=>?_)
 cases d with
 | true=>exact G pins s1 σ H1 Q B z
 | false=>exact J pins s1 σ H1 Q B z
end
def SqL (K:Qa)(H:Hp)(a:Addr)(xs:List V):Prop :=
 Rd H a (.lst xs) \/
  ∃ (o:Obj) (its:Array Qb) (n:Nat),K.lookup a=some o/\o.cls=.type "list"/\o.dict=none/\o.data=.seq its n/\its.size<=Qh/\Vals xs its.toList
def SqT (K:Qa)(H:Hp)(a:Addr)(xs:List V):Prop :=
 Rd H a (.tup xs) \/
  ∃ (o:Obj) (its:Array Qb) (n:Nat),K.lookup a=some o/\o.cls=.type "tuple"/\o.data=.seq its n/\its.size<=Qh/\Vals xs its.toList
def ZfO:Qb->Option V
 | .none=>some .non
 | .bool b=>some (.bl b)
 | .int i _=>some (.int i)
 | .str x _=>some (.str x)
 | .bytes b _=>some (.byt b)
 | .float b _=>some (.flt b)
 | .ref a=>some (.ref a)
 | .type n=>some (.ty n)
 | _=>none
theorem RelV.abs {x:V}{u:Qb}(r:RelV x u):ZfO u=some x:=by
 cases x with
 | non=>cases r;rfl
 | bl _=>cases r;rfl
 | int _=>obtain ⟨t,rfl⟩:=r;rfl
 | str _=>obtain ⟨t,rfl⟩:=r;rfl
 | byt _=>obtain ⟨t,rfl⟩:=r;rfl
 | flt _=>obtain ⟨t,rfl⟩:=r;rfl
 | ref _=>cases r;rfl
 | ty _=>cases r;rfl
theorem RelV.inj {x y:V}{u:Qb}(r:RelV x u)(q:RelV y u):x=y:=Qv (r.abs.symm.trans q.abs)
theorem Vals.inj:∀{xs ys:List V}{us:List Qb},Vals xs us->Vals ys us->xs=ys
 | _,_,_,.nil,.nil=>rfl
 | _,_,_,.cons r t,.cons r' t'=>by rw [r.inj r',Vals.inj t t']
section
variable {X:Cx}{pins:List (Addr×Obj)}{σ:St}{H:Hp}{s:Qd}{a:Addr}{xs ys:List V}
theorem SqL.of {K:Qa}(h:H a=some (.lst xs)):SqL K H a xs:=.inl (.inl h)
theorem SqT.of {K:Qa}(h:H a=some (.tup xs)):SqT K H a xs:=.inl (.inl h)
theorem Inv.list (I:Inv X pins σ H s)(h:SqL X.K H a xs):∃ B:List Qb,Vals xs B/\PlainL s.heap a B.toArray/\xs.length<=sizeLine:=by
 rcases h with h | ⟨o,B,n,S,J,W,G,Y,r⟩
 ·obtain ⟨z,B,n,r,e⟩:=h.ok I.hok
  exact ⟨B,r,⟨_,n,e,rfl,rfl,rfl⟩,z⟩
 ·refine ⟨B.toList,r,⟨o,n,I.kIn a o S,J,W,by simpa using G⟩,?_⟩
  have e:=r.length
  simp only [GS] at e
  omega
theorem Inv.tuple (I:Inv X pins σ H s)(h:SqT X.K H a xs):∃ B:List Qb,Vals xs B/\OS s.heap a B.toArray/\xs.length<=sizeLine:=by
 rcases h with h | ⟨o,B,n,S,J,G,W,r⟩
 ·obtain ⟨z,B,r,p⟩:=h.ok I.hok
  exact ⟨B,r,p,z⟩
 ·refine ⟨B.toList,r,⟨o,I.kIn a o S,J,n,by simpa using G⟩,?_⟩
  have e:=r.length
  simp only [GS] at e
  omega
theorem Inv.list_inj (I:Inv X pins σ H s)(h:SqL X.K H a xs)(h':SqL X.K H a ys):xs=ys:=by
 obtain ⟨z,r,⟨o,n,e,_,_,d⟩,_⟩:=I.list h
 obtain ⟨its',G,⟨o',J,B,_,_,d'⟩,_⟩:=I.list h'
 rw [e] at B;cases B
 rw [d] at d'
 injection d' with d1 _
 have:z=its':=by simpa using congrArg Array.toList d1
 subst this
 exact r.inj G
theorem Inv.tuple_inj (I:Inv X pins σ H s)(h:SqT X.K H a xs)(h':SqT X.K H a ys):xs=ys:=by
 obtain ⟨z,r,⟨o,e,_,n,d⟩,_⟩:=I.tuple h
 obtain ⟨its',G,⟨o',B,_,J,d'⟩,_⟩:=I.tuple h'
 rw [e] at B;cases B
 rw [d] at d'
 injection d' with d1 _
 have:z=its':=by simpa using congrArg Array.toList d1
 subst this
 exact r.inj G
end
abbrev Cx.wish (X:Cx)(E:Qb->Qd->Prop):Cx:={ X with xe:=E }
abbrev Cx.nox (X:Cx):Cx:=X.wish fun _ _=>False
theorem Cx.Ok.wish {X:Cx}(ok:X.Ok)(E:Qb->Qd->Prop):(X.wish E).Ok :=
 ⟨ok.mod,ok.kind,ok.glob,ok.blt,ok.above,ok.inj,ok.has,ok.cab,ok.hd,ok.frames,ok.stk,ok.exf,ok.bs,ok.bsz,ok.noex,ok.exfs,ok.funs,ok.frf⟩
theorem Cx.Ok.unwish {X:Cx}{E:Qb->Qd->Prop}(ok:(X.wish E).Ok):X.Ok :=
 ⟨ok.mod,ok.kind,ok.glob,ok.blt,ok.above,ok.inj,ok.has,ok.cab,ok.hd,ok.frames,ok.stk,ok.exf,ok.bs,ok.bsz,ok.noex,ok.exfs,ok.funs,ok.frf⟩
section
variable {X:Cx}{pins:List (Addr×Obj)}{σ:St}{H:Hp}{s:Qd}{E:Qb->Qd->Prop}
theorem Inv.wish (I:Inv X pins σ H s)(E:Qb->Qd->Prop):Inv (X.wish E) pins σ H s:=⟨I.ok.wish E,I.os,I.bare,I.base,I.loc,I.cell,I.free,I.freeC,I.pin,I.hok,I.len⟩
theorem Inv.unwish (I:Inv (X.wish E) pins σ H s):Inv X pins σ H s:=⟨I.ok.unwish,I.os,I.bare,I.base,I.loc,I.cell,I.free,I.freeC,I.pin,I.hok,I.len⟩
theorem SP.unwish {D:YN}{f:Flow}{s':Qd}(h:SP (X.wish E) pins D f s'):SP X pins D f s':=by
 cases f with
 | next=>obtain ⟨z,H',I,q⟩:=h;exact ⟨z,H',I.unwish,q⟩
 | brk=>obtain ⟨z,H',I,q⟩:=h;exact ⟨z,H',I.unwish,q⟩
 | cont=>obtain ⟨z,H',I,q⟩:=h;exact ⟨z,H',I.unwish,q⟩
 | ret u=>obtain ⟨v,z,H',I,r,q⟩:=h;exact ⟨v,z,H',I.unwish,r,q⟩
theorem PSs.nox {st:List Stmt}{t:TS}(h:PSs X.nox st t):PSs X st t:=fun pins s σ H D I B =>
 QX (h pins s σ H D (I.wish _) B) (fun _ _ q=>q.unwish) fun _ _ z=>QS z
end
section
variable {X:Cx}{st:Stmt}{rest:List Stmt}{t u:TS}{e:Expr}{te:TE}{pos:Pos}
def ZmX:TS:=fun D σ H=>D.nx σ H
def Yp (t u:TS):TS:=fun D σ H=>t { D with nx:=u D } σ H
theorem ZV:PSs X [] ZmX:=fun _ _ σ H _ I h=>Pm ⟨σ,H,I,h⟩
theorem Zd (h1:PS X st t)(h2:PSs X rest u):PSs X (st::rest) (Yp t u):=by
 intro pins s σ H D I h
 refine TD (Zu (h1 pins s σ H { D with nx:=u D } I h) fun f s1 q=>?_)
 cases f with
 | next =>
  obtain ⟨z,H',B,q⟩:=q
  exact h2 pins s1 z H' D B q
 | ret v=>exact q
 | brk=>exact q
 | cont=>exact q
theorem Zf (h1:PS X st t):PSs X [st] t:=by
 intro pins s σ H D I h
 refine TD (Zu (h1 pins s σ H D I h) fun f s1 q=>?_)
 cases f with
 | next=>exact Pm q
 | ret v=>exact q
 | brk=>exact q
 | cont=>exact q
theorem Inv.quiet {pins:List (Addr×Obj)}{σ:St}{H:Hp}{s:Qd}(I:Inv X pins σ H s):interactive X.env=false:=by simp [interactive,I.ok.kind]
def ZmG (te:TE):TS:=fun D σ H=>te σ H fun _ H1=>D.nx σ H1
theorem ZA (J:PE X e te)(z:JA e none pos.line X.env=pure false:=by rfl):PS X (.Expr e pos) (ZmG te):=by
 intro pins s σ H D I h
 exact wpAny_Expr_any (Zu (J pins s σ H _ I h) fun v s1 ⟨x,H1,G,S,B⟩=>⟨σ,H1,G,B⟩) I.quiet z
def tRet (te:TE):TS:=fun D σ H=>te σ H D.rt
theorem Zl (J:PE X e te):PS X (.Return (some e) pos) (tRet te):=by
 intro pins s σ H D I h
 exact wpAny_Return_some (Zu (J pins s σ H _ I h) fun v s1 ⟨x,H1,B,G,z⟩=>⟨x,σ,H1,B,G,z⟩)
def tIfS (c:TT)(t u:TS):TS:=fun D σ H=>c σ H fun b H1=>if b=true then t D σ H1 else u D σ H1
theorem ZL {c:Expr}{a b:List Stmt}{tc:TT}(S:PT X c tc)(G:PSs X a t)(J:PSs X b u):PS X (.If c a b pos) (tIfS tc t u):=by
 intro pins s σ H D I h
 refine wpAny_If (Zu (S pins s σ H _ I h) fun d s1 ⟨H1,B,z⟩=>?_)
 cases d with
 | true=>exact G pins s1 σ H1 D B z
 | false=>exact J pins s1 σ H1 D B z
end
abbrev TG:=V->St->Hp->(St->Hp->Prop)->Prop
abbrev TGs:=List V->St->Hp->(St->Hp->Prop)->Prop
def PG (X:Cx)(target:Expr)(t:TG):Prop :=
 ∀ (pins:List (Addr×Obj)) (s:Qd) (σ:St) (H:Hp) (v:V) (u:Qb) (Q:St->Hp->Prop),Inv X pins σ H s->RelV v u->t v σ H Q ->
  Qp (Qs X.prog X.w) X.A (SL target X.env u) (fun _ s'=>∃ σ' H',Inv X pins σ' H' s'/\Q σ' H') X.xe s
def PGs (X:Cx)(ts:List Expr)(t:TGs):Prop :=
 ∀ (pins:List (Addr×Obj)) (s:Qd) (σ:St) (H:Hp) (vs:List V) (us:List Qb) (Q:St->Hp->Prop),Inv X pins σ H s->Vals vs us->t vs σ H Q ->
  Qp (Qs X.prog X.w) X.A (Pa ((PM ts X.env).map (·.2)) us) (fun _ s'=>∃ σ' H',Inv X pins σ' H' s'/\Q σ' H') X.xe s
abbrev ZiB:=V->V->V->Hp->(Hp->Prop)->Prop
def PSet (X:Cx)(t:ZiB):Prop :=
 ∀ (pins:List (Addr×Obj)) (s:Qd) (σ:St) (H:Hp) (o i v:V) (ov iv u:Qb) (Q:Hp->Prop),Inv X pins σ H s->RelV o ov->RelV i iv->RelV v u->t o i v H Q ->
  Qp (Qs X.prog X.w) X.A (setItem ov iv u) (fun _ s'=>∃ H',Inv X pins σ H' s'/\Q H') X.xe s
abbrev TIp:=V->V->Hp->VK->Prop
def PIp (X:Cx)(op:Operator)(t:TIp):Prop :=
 ∀ (pins:List (Addr×Obj)) (s:Qd) (σ:St) (H:Hp) (x y:V) (v u:Qb) (Q:VK),Inv X pins σ H s->RelV x v->RelV y u->t x y H Q ->
  Qp (Qs X.prog X.w) X.A (inplaceOp op v u) (EP X pins σ Q) X.xe s
section
variable {X:Cx}{pos:Pos}
def WL (i:Nat):TG:=fun v σ H Q=>Q (σ.set i (some v)) H
theorem Ya {i:Nat}{x:Str}(z:X.N.Nodup)(hi:X.N[i]?=some x)(J:Loc X.env.scope x)(G:X.fn x=true\/X.env.scope.names.lookup x=some .local:=by first | exact .inl rfl | exact .inr rfl | assumption):PG X (.Name x pos) (WL i):=by
 intro pins s σ H v u Q I r h
 exact RT (Xe I z hi J r (fun s' B=>⟨_,H,B,h⟩) G)
def gNil:TGs:=fun vs σ H Q=>vs=[]/\Q σ H
def ZfU (t:TG)(u:TGs):TGs:=fun vs σ H Q=>∃ v r,vs=v::r/\t v σ H fun σ' H'=>u r σ' H' Q
theorem Wh:PGs X [] gNil:=by
 intro pins s σ H vs us Q I r h
 obtain ⟨e,h⟩:=h
 subst e
 cases r
 exact Tf ⟨σ,H,I,h⟩
theorem Yt {e:Expr}{es:List Expr}{t:TG}{u:TGs}(h1:PG X e t)(h2:PGs X es u)
 (B:(PM (e::es) X.env).map (·.2)=SL e X.env::(PM es X.env).map (·.2):=by rfl):PGs X (e::es) (ZfU t u):=by
 intro pins s σ H vs us Q I r h
 obtain ⟨v,S,e1,h⟩:=h
 subst e1
 cases r with
 | cons r rr =>
  rw [B]
  refine GC (Zu (h1 pins s σ H _ _ _ I r h) fun _ s1 ⟨z,H1,J,G⟩=>?_)
  exact h2 pins s1 z H1 _ _ Q J rr G
def gTup (K:Qa)(n:Nat)(t:TGs):TG:=fun v σ H Q=>∃ a xs,v=.ref a/\SqT K H a xs/\xs.length=n/\t xs σ H Q
theorem WZ {es:List Expr}{k:Nat}{t:TGs}{n:Nat}(S:X.calm=true)(h:PGs X es t)
 (hn:(PM es X.env).length=n:=by rfl) (z:(PM es X.env).findIdx? (·.1)=none:=by rfl):PG X (.Tuple es k pos) (gTup X.K n t):=by
 intro pins s σ H v u Q I r B
 obtain ⟨a,xs,e1,hq,J,B⟩:=B
 subst e1
 cases r
 obtain ⟨Z,G,W,hz⟩:=I.tuple hq
 refine assign_Tuple_tuple (I.ok.hd S) W (by simp [hn,<- J,G.length]) z fun h' hx=>?_
 have Y:Inv X pins σ H { s with heap:=h' }:=I.kept (t':=s.toks) fun b o e=>hx b o (Qq (Qf e)) e
 exact h pins _ σ H xs _ Q Y (by simpa using G) B
def gSub (to ti:TE)(t:ZiB):TG:=fun v σ H Q=>to σ H fun o H1=>ti σ H1 fun i H2=>t o i v H2 fun H3=>Q σ H3
theorem Zbh {o i:Expr}{to G:TE}{t:ZiB}(J:PE X o to)(hi:PE X i G)(S:PSet X t)
 (Y:∀ v,SL (.Subscript o i pos) X.env v=(do
  let z <- JB [v] (eval o X.env)
  let B <- JB [v,z] (eval i X.env)
  Te pos
  JB [v,z,B] (setItem z B v)
  release [v,z,B] []):=by intro _;rfl):PG X (.Subscript o i pos) (gSub to G t):=by
 intro pins s σ H v u Q I r h
 rw [Y]
 refine Qe (Gf (Zu (J pins s σ H _ I h) fun z s1 ⟨x,H1,I1,r1,Z⟩=>?_))
 refine Qe (Gf (Zu (hi pins s1 σ H1 _ I1 Z) fun B s2 ⟨y,H2,W,r2,q2⟩=>?_))
 refine Qe (Gr (Qe (Gf (Zu (S pins s2 σ H2 x y v z B u _ W r1 r2 r q2) fun _ s3 ⟨H3,I3,q3⟩=>?_))))
 exact wpAny_release ⟨σ,H3,I3,q3⟩
def Zbv (te:TE)(g:TG):TS:=fun D σ H=>te σ H fun x H1=>g x σ H1 D.nx
theorem WF {tg e:Expr}{te:TE}{g:TG}(W:PE X e te)(G:PG X tg g)(z:Ro [tg] e pos.line X.env=pure false:=by rfl)(Y:Rp [tg] e X.env=pure none:=by rfl)
 (h1:(PM [tg] X.env).map (·.2)=[SL tg X.env]:=by rfl):PS X (.Assign [tg] e pos) (Zbv te g):=by
 intro pins s σ H D I h
 refine wpAny_Assign_stores (Zu (W pins s σ H _ I h) fun v s1 ⟨x,H1,J,S,B⟩=>?_) z Y
 rw [h1]
 exact Zu (G pins s1 σ H1 x v _ J S B) fun _ s2 q=>q
theorem Zt {i:Nat}{x:Str}{e:Expr}{te:TE}{pos':Pos}(G:X.N.Nodup)(hi:X.N[i]?=some x)(hx:Loc X.env.scope x)(Z:PE X e te)(z:JA e (some (.Name x pos')) pos.line X.env=pure false:=by rfl)(S:X.fn x=true\/X.env.scope.names.lookup x=some .local:=by first | exact .inl rfl | exact .inr rfl | assumption) :
 PS X (.Assign [.Name x pos'] e pos) (Zbv te (WL i)):=by
 intro pins s σ H D I h
 refine wpAny_Assign_Name (Zu (Z pins s σ H _ I h) fun v s1 ⟨y,H1,W,Y,J⟩=>?_) z
 exact Xe W G hi hx Y (fun s2 B=>⟨_,H1,B,J⟩) S
def tPar (i j:Nat)(ta:TA):TS:=fun D σ H=>ta σ H fun vs H1=>∃ v w,vs=[v,w]/\D.nx ((σ.set i (some v)).set j (some w)) H1
theorem Zav {i j:Nat}{x y:Str}{a b:Expr}{ta:TA}{px S pt:Pos}{kt k2 pt2}(hc:X.calm=true)(hN:X.N.Nodup)(hi:X.N[i]?=some x)(hj:X.N[j]?=some y)(W:i≠j)
 (hx:X.env.scope.names.lookup x=some .local) (hy:X.env.scope.names.lookup y=some .local) (ha:PA X [a,b] ta)
 (hw:Rp [.Tuple [.Name x px,.Name y S] kt pt] (.Tuple [a,b] k2 pt2) X.env=pure (some [x,y]))
 (hs:Ro [.Tuple [.Name x px,.Name y S] kt pt] (.Tuple [a,b] k2 pt2) pos.line X.env=pure false:=by rfl) :
 PS X (.Assign [.Tuple [.Name x px,.Name y S] kt pt] (.Tuple [a,b] k2 pt2) pos) (tPar i j ta):=by
 intro pins s σ H D I h
 rw [OX]
 refine Qe (Gr ?_)
 rw [hs]
 refine Qe (Qu ?_)
 rw [if_neg (by decide)]
 refine Qe (Tuple_ (Zu (ha _ pins s σ H _ I h) fun us s1 ⟨vs,H1,I1,r1,J⟩=>?_))
 obtain ⟨v,w,e1,J⟩:=J
 subst e1
 obtain ⟨B,z,rfl,rv,Y⟩:∃ B z,us=[B,z]/\RelV v B/\RelV w z:=by
  cases r1 with
  | cons p q =>
   cases q with
   | cons p' q' =>
    cases q'
    exact ⟨_,_,rfl,p,p'⟩
 refine JC ?_ (by show 2<=Qh;decide)
 have I2:Inv X pins σ H1 { s1 with heap:=s1.heap.push { cls:=.type "tuple",data:=.seq [B,z].toArray } }:=I1.kept (t':=s1.toks) fun b o e=>Qc _ e
 rw [hw]
 refine Qe (Qu ?_)
 show Qp (Qs X.prog X.w) X.A (do rule "assign.swapped-stores";let items <- unpackItems (.ref s1.heap.objs.size) 2 none;Pa [fun v=>Jm X.env y v,fun v=>Jm X.env x v] items.reverse;pure Oy) _ _ _
 refine Qe (RA (Qe (RU (items:=#[B,z]) (I.ok.hd hc) (TH s1.heap _) fun h' G=>?_)))
 have I3:=I2.kept (h':=h') (t':=s1.toks) fun b o e=>G b o (Qq (Qf e)) e
 show Qp _ _ (Pa [fun v=>Jm X.env y v,fun v=>Jm X.env x v] [z,B] >>= fun _=>pure Oy) _ _ _
 refine Qe (GC (JD (Xe I3 hN hj (.inl hy) Y (fun s2 I4=>?_) (.inr hy))))
 refine GC (JD (Xe I4 hN hi (.inl hx) rv (fun s3 Z=>Tf (Qu ?_)) (.inr hx)))
 rw [To _ _ (Gg W)] at Z
 exact ⟨_,H1,Z,J⟩
def tAug (i:Nat)(te:TE)(ti:TIp):TS:=fun D σ H=>∃ x,σ[i]?=some (some x)/\te σ H fun y H1=>ti x y H1 fun z H2=>D.nx (σ.set i (some z)) H2
theorem Zmb {i:Nat}{x:Str}{e:Expr}{te:TE}{S:Operator}{Z:TIp}{pos':Pos}(hN:X.N.Nodup)(hi:X.N[i]?=some x)(Y:Loc X.env.scope x)(he:PE X e te)(ho:PIp X S Z)(hf:X.fn x=true\/X.env.scope.names.lookup x=some .local:=by first | exact .inl rfl | exact .inr rfl | assumption) :
 PS X (.AugAssign (.Name x pos') S e pos) (tAug i te Z):=by
 intro pins s σ H D I h
 obtain ⟨v,e1,h⟩:=h
 obtain ⟨m,hn,hl⟩:=I.loc
 have W:Vis X.env.scope x:=by rcases Y with k | k;exact .inl k;exact .inr (.inl k)
 obtain ⟨u,r,l⟩:=hl i x v hi e1 W
 refine wpAny_AugAssign_Name ?_
 have go:Qp (Qs X.prog X.w) X.A (eval e X.env) (fun w J=>Qp (Qs X.prog X.w) X.A (inplaceOp S u w) (fun r G=>Qp (Qs X.prog X.w) X.A (storeName X.env x r) (fun _=>SP X pins D .next) X.xe G) X.xe J) X.xe s:=by
  refine Zu (he pins s σ H _ I h) fun w s1 ⟨y,H1,I1,r1,q1⟩=>?_
  refine Zu (ho pins s1 σ H1 v y u w _ I1 r r1 q1) fun z s2 ⟨zv,H2,I2,r2,q2⟩=>?_
  exact Xe I2 hN hi Y r2 (fun s3 I3=>⟨_,H2,I3,q2⟩) hf
 rcases l with ⟨hk,hm⟩ | ⟨hk,c,hc,B⟩
 ·exact Pe I.ok.kind hk hn hm go
 ·rcases hk with hk | hk
  ·exact Re I.ok.kind hk hc B go
  ·rcases Y with k | k
   ·have:X.env.scope.names.lookup x=some .free:=hk
    rw [k] at this;cases this
   ·have:X.env.scope.names.lookup x=some .free:=hk
    rw [k] at this;cases this
def ipI (f:Int->Int->Int):TIp:=fun x y H Q=>∃ i j,x=.int i/\y=.int j/\Q (.int (f i j)) H
theorem Zlw:PIp X .Add (ipI fun i j=>i+j):=by
 intro pins s σ H x y v u Q I B z h
 obtain ⟨i,j,e1,G,q⟩:=h
 subst e1;subst G
 obtain ⟨t,rfl⟩:=B
 obtain ⟨t',rfl⟩:=z
 exact iadd_int ⟨.int _,H,I.tok _,⟨_,rfl⟩,q⟩
end
section
variable {X:Cx}{pos:Pos}
def ZkZ (c:TT)(tb:TS):TS:=fun D σ H=>∃ W:Nat->St->Hp->Prop,(∃ m,W m σ H)/\∀ m σ H,W m σ H ->
 c σ H fun b H1=>if b=true then ∃ N:St->Hp->Prop,(∀ σ' H',N σ' H'->∃ m',m' < m/\W m' σ' H')/\tb { D with nx:=N,ct:=N,bk:=D.nx } σ H1 else D.nx σ H1
theorem UZ {c:Expr}{body:List Stmt}{tc:TT}{tb:TS}(hp:PassesOwn (Qs X.prog X.w) X.A X.env X.xe)(hc:PT X c tc)(hb:PSs X body tb):PS X (.While c body [] pos) (ZkZ tc tb):=by
 intro pins s σ H D I h
 obtain ⟨W,⟨m0,w0⟩,S⟩:=h
 refine wpAny_While (codeAny_whileLoop (fun n s'=>∃ J H',Inv X pins J H' s'/\W n J H') ?_ m0 ⟨σ,H,I,w0⟩)
 rintro n s1 ⟨B,H1,I1,w1⟩
 refine GG hp (Zu (hc pins s1 B H1 _ I1 (S n B H1 w1)) fun b s2 ⟨H2,I2,Y⟩=>?_)
 cases b with
 | true =>
  obtain ⟨N,hN,Y⟩:=Y
  rw [if_pos rfl]
  refine GG hp (Zu (hb pins s2 B H2 _ I2 Y) fun f s3 Z=>?_)
  cases f with
  | next =>
   obtain ⟨z,G,I3,n3⟩:=Z
   obtain ⟨m',hm,w3⟩:=hN z G n3
   exact ⟨m',hm,z,G,I3,w3⟩
  | cont =>
   obtain ⟨z,G,I3,n3⟩:=Z
   obtain ⟨m',hm,w3⟩:=hN z G n3
   exact ⟨m',hm,z,G,I3,w3⟩
  | brk=>exact Z
  | ret v=>exact Z
 | false =>
  rw [if_neg Qt]
  exact Pm ⟨B,H2,I2,Y⟩
end
structure It where
 go:Nat->Hp->Prop
 yld:Nat->Hp->V->Hp->Prop
 stop:Nat->Hp->Prop
def Xy (X:Cx)(pins:List (Addr×Obj))(H:Hp)(b:Addr):Prop :=
 H b=none/\b≠X.env.locals/\b ∉ X.fs/\(b∈X.ex\/X.s₀.heap.objs.size<=b)/\(∀ x c,X.env.cells.lookup x=some c->c≠b)/\∀ p∈X.pn++pins,p.1≠b
theorem Inv.fpOk {X:Cx}{pins:List (Addr×Obj)}{σ:St}{H H':Hp}{s:Qd}{b:Addr}(I:Inv X pins σ H s)(B:s.heap.objs.size<=b)(G:H' b=none):Xy X pins H' b:=by
 refine ⟨G,GI (QE I.lt B),I.nofs B,.inr (Qw I.sz B),fun x c e z=>?_,fun p hp z=>?_⟩
 ·obtain ⟨v,q⟩:=I.cell x c e
  exact absurd (QE q.lt (by rw [z];exact B)) (Gz _)
 ·exact absurd (QE (Qf (I.pin p hp).1) (by rw [z];exact B)) (Gz _)
structure Vo (P:Qj)(w:Qr)(K:Qa)(tg:Expr)(J:It)(fp:List Addr)(it:Addr)(tn:Nat->Heap->Prop):Prop where
 mem:it∈fp
 obj:∀ i h,tn i h->∀ b∈fp,∃ o,h.get? b=some o/\∀ v,o.data≠.cell v
 keep:∀ i h h',tn i h->(∀ b∈fp,∀ o,h.get? b=some o->h'.get? b=some o)->tn i h'
 item:∀ (X:Cx),X.prog=P->X.w=w->X.K=K->X.calm=true->∀ (i:Nat) (pins:List (Addr×Obj)) (s:Qd) (σ:St) (H:Hp) (E:Qb->Qd->Prop),Inv X pins σ H s->(∀ b∈fp,Xy X pins H b)->tn i s.heap->J.go i H ->
  Qp (Qs P w) X.A (pyNext (.ref it)) (fun r s1=>∃ u,r=some u /\
   Qp (Qs P w) X.A (Po tg (.ref it) u) (fun _ s2=>∃ x H',Inv X pins σ H' s2/\RelV x u/\J.yld i H x H'/\tn (i+1) s2.heap/\∀ b∈fp,H' b=none) E s1) E s
 done:∀ (X:Cx),X.prog=P->X.w=w->X.K=K->X.calm=true->∀ (i:Nat) (pins:List (Addr×Obj)) (s:Qd) (σ:St) (H:Hp) (E:Qb->Qd->Prop),Inv X pins σ H s->(∀ b∈fp,Xy X pins H b)->tn i s.heap->J.stop i H ->
  Qp (Qs P w) X.A (pyNext (.ref it)) (fun r s1=>r=none/\Inv X pins σ H s1) E s
 self:∀ (A:QG) (i:Nat) (s:Qd) (Q:Qb->Qd->Prop) (E:Qb->Qd->Prop),tn i s.heap->Q (.ref it) s->Qp (Qs P w) A (pyIter (.ref it)) Q E s
abbrev TI:=St->Hp->(It->Hp->Prop)->Prop
def PIE (X:Cx)(pins:List (Addr×Obj))(σ:St)(tg:Expr)(R:It->Hp->Prop)(itv:Qb)(s2:Qd):Prop :=
 ∃ (it:Addr) (fp:List Addr) (tn:Nat->Heap->Prop) (J:It) (H':Hp),itv=.ref it/\Inv X pins σ H' s2/\Vo X.prog X.w X.K tg J fp it tn/\tn 0 s2.heap/\(∀ b∈fp,Xy X pins H' b)/\R J H'
def PI (X:Cx)(tg iter:Expr)(wi:TI):Prop :=
 ∀ (pins:List (Addr×Obj)) (s:Qd) (σ:St) (H:Hp) (R:It->Hp->Prop),Inv X pins σ H s->wi σ H R ->
  Qp (Qs X.prog X.w) X.A (eval iter X.env) (fun v s1=>Qp (Qs X.prog X.w) X.A (pyIter v) (PIE X pins σ tg R) X.xe s1) X.xe s
theorem Zfr {M:Rm}{A:QG}{E:Qb->Qd->Prop}{s:Qd}{tg:Expr}{B:Addr}{u:Qb}{o:Obj}{n:String}{vs:Array Qb}{Q:Unit->Qd->Prop}(J:s.heap.get? B=some o)(G:o.cls=.type n)(I:o.data=.fields vs)
   (S:["enumerate","zip","dict_itemiterator","dict_reverseitemiterator","odict_iterator","itertools.zip_longest","itertools.pairwise"].contains n=false) (z:Q () s):Qp M A (Po tg (.ref B) u) Q E s:=by
 unfold Po
 cases tg <;> first
   | exact Qu z
   | (cases u<;>first
       | exact Qu z
       | (refine Qe (wpAny_load J ?_)
          rw [G,I]
          show Qp M A (if (["enumerate","zip","dict_itemiterator","dict_reverseitemiterator","odict_iterator","itertools.zip_longest","itertools.pairwise"].contains n&&vs[0]? == some (Gx _))=true then _ else _) Q E s
          rw [if_neg (by intro h;rw [S,Bool.false_and] at h;cases h)]
          exact Qu z))
def Itl (K:Qa)(a:Addr):It :=
 ⟨fun i H=>∃ xs x,SqL K H a xs/\xs[i]?=some x,fun i H x H'=>H'=H/\∀ xs,SqL K H a xs->xs[i]?=some x,fun i H=>∃ xs,SqL K H a xs/\xs.length<=i⟩
def Itt (K:Qa)(a:Addr):It :=
 ⟨fun i H=>∃ xs x,SqT K H a xs/\xs[i]?=some x,fun i H x H'=>H'=H/\∀ xs,SqT K H a xs->xs[i]?=some x,fun i H=>∃ xs,SqT K H a xs/\xs.length<=i⟩
def Itr (lo:Int)(n:Nat):It:=⟨fun i _=>i < n,fun i H x H'=>H'=H/\x=.int (lo+i),fun i _=>n<=i⟩
theorem ZgA {P:Qj}{w:Qr}{K:Qa}{tg:Expr}(a G:Addr):Vo P w K tg (Itl K a) [G] G (fun i h=>h.IsListIter G a i) where
 mem:=by simp
 obj:=fun i h st b B=>by
  have e:b=G:=by simpa using B
  subst e
  obtain ⟨o,e,c,d⟩:=st
  exact ⟨o,e,fun v z=>by rw [d] at z;cases z⟩
 keep:=fun i h h' st k=>st.at fun o e=>k G (by simp) o e
 item:=by
  intro X hP hw hK hc i pins s σ H E I S st hg
  subst hP hw hK
  obtain ⟨xs,x,W,hx⟩:=hg
  obtain ⟨its,rv,p,hz⟩:=I.list W
  obtain ⟨u,hu,ru⟩:=rv.get hx
  obtain ⟨f0,f1,f2,Z,Y,f5⟩:=S G (by simp)
  refine wpAny_pyNext_list_item st p.isList (x:=u) (by simpa using hu) fun h' J sb=>?_
  have I1:Inv X pins σ H { s with heap:=h' }:=I.turned (t':=s.toks) (fun b o B e=>(sb.2 b B).trans e) f0 f1 Z Y f5
  obtain ⟨o,e,c,d⟩:=id J
  exact ⟨u,rfl,Zfr (s:={ s with heap:=h' }) e c d (by decide) ⟨x,H,I1,ru,⟨rfl,fun ys hy=>by rw [I.list_inj hy W];exact hx⟩,J,fun b B=>(S b B).1⟩⟩
 done:=by
  intro X hP hw hK hc i pins s σ H E I S st hg
  subst hP hw hK
  obtain ⟨xs,W,hx⟩:=hg
  obtain ⟨its,rv,p,hz⟩:=I.list W
  obtain ⟨f0,f1,f2,Z,Y,f5⟩:=S G (by simp)
  have hl:=rv.length
  exact wpAny_pyNext_list_end (I.ok.hd hc) st p.isList (by simp;omega) fun h' eb=>⟨rfl,I.turned (t':=s.toks) (fun b o B e=>eb b o B e) f0 f1 Z Y f5⟩
 self:=fun _ _ _ _ _ st h=>wpAny_pyIter_listiter st h
theorem ZeY {P:Qj}{w:Qr}{K:Qa}{tg:Expr}(a J:Addr):Vo P w K tg (Itt K a) [J] J (fun i h=>h.IsTupleIter J a i) where
 mem:=by simp
 obj:=fun i h st b G=>by
  have e:b=J:=by simpa using G
  subst e
  obtain ⟨o,e,c,d⟩:=st
  exact ⟨o,e,fun v z=>by rw [d] at z;cases z⟩
 keep:=fun i h h' st k=>st.at fun o e=>k J (by simp) o e
 item:=by
  intro X hP hw hK hc i pins s σ H E I W st hg
  subst hP hw hK
  obtain ⟨xs,x,Y,hx⟩:=hg
  obtain ⟨B,rv,p,hz⟩:=I.tuple Y
  obtain ⟨u,hu,ru⟩:=rv.get hx
  obtain ⟨f0,f1,f2,f3,Z,f5⟩:=W J (by simp)
  refine wpAny_pyNext_tuple_item st (show s.heap.IsTuple a B.toArray from p) (x:=u) (by simpa using hu) fun h' S sb=>?_
  have I1:Inv X pins σ H { s with heap:=h' }:=I.turned (t':=s.toks) (fun b o G e=>(sb.2 b G).trans e) f0 f1 f3 Z f5
  obtain ⟨o,e,c,d⟩:=id S
  exact ⟨u,rfl,Zfr (s:={ s with heap:=h' }) e c d (by decide) ⟨x,H,I1,ru,⟨rfl,fun ys hy=>by rw [I.tuple_inj hy Y];exact hx⟩,S,fun b G=>(W b G).1⟩⟩
 done:=by
  intro X hP hw hK hc i pins s σ H E I W st hg
  subst hP hw hK
  obtain ⟨xs,Y,hx⟩:=hg
  obtain ⟨B,rv,p,hz⟩:=I.tuple Y
  obtain ⟨f0,f1,f2,f3,Z,f5⟩:=W J (by simp)
  have hl:=rv.length
  exact wpAny_pyNext_tuple_end (I.ok.hd hc) st (show s.heap.IsTuple a B.toArray from p) (by simp;omega) fun h' eb=>⟨rfl,I.turned (t':=s.toks) (fun b o G e=>eb b o G e) f0 f1 f3 Z f5⟩
 self:=fun _ _ _ _ _ st h=>wpAny_pyIter_tupleiter st h
theorem ZfP {P:Qj}{w:Qr}{K:Qa}{tg:Expr}(B:Addr)(lo:Int)(n:Nat):Vo P w K tg (Itr lo n) [B] B (fun i h=>IsRangeIter h B (lo+(i:Nat) * 1) ((n:Int) - (i:Nat)) 1) where
 mem:=by simp
 obj := fun i h st b G=>by
  have e:b=B:=by simpa using G
  subst e
  exact ⟨_,st,fun v z=>by
   have z':Data.fields _=Data.cell v:=z
   cases z'⟩
 keep:=fun i h h' st k=>k B (by simp) _ st
 item:=by
  intro X hP hw hK hc i pins s σ H E I S st hg
  subst hP hw hK
  obtain ⟨f0,f1,f2,Z,Y,f5⟩:=S B (by simp)
  have W:=Walks.range (prog:=X.prog) (w:=X.w) (I.ok.hd hc) B lo 1 n
  refine W.item i s _ _ hg st fun v h' tk hv J kk=>?_
  obtain ⟨t,rfl⟩:=hv
  have I1:Inv X pins σ H { s with heap:=h',toks:=tk }:=I.turned (fun b o G e=>kk b o (by simpa using G) e) f0 f1 Z Y f5
  refine ⟨_,rfl,Zfr (s:={ s with heap:=h',toks:=tk }) (n:="range_iterator") J rfl rfl (by decide) ⟨.int (lo+i),H,I1,⟨t,?_⟩,⟨rfl,rfl⟩,J,fun b G=>(S b G).1⟩⟩
  rw [Int.mul_one]
 done:=by
  intro X hP hw hK hc i pins s σ H E I S st hg
  subst hP hw hK
  obtain ⟨f0,f1,f2,Z,Y,f5⟩:=S B (by simp)
  exact wpAny_pyNext_range_end (I.ok.hd hc) st (by have:n<=i:=hg;omega) fun h' eb=>⟨rfl,I.turned (t':=s.toks) (fun b o G e=>eb b o G e) f0 f1 Z Y f5⟩
 self:=fun _ _ _ _ _ st h=>wpAny_pyIter_rangeiter st h
section
variable {X:Cx}{tg:Expr}
def ZmZ (K:Qa)(tl:TE):TI:=fun σ H R=>tl σ H fun x H1=>∃ a,x=.ref a/\(∃ xs,SqL K H1 a xs)/\R (Itl K a) H1
def iTup (K:Qa)(tl:TE):TI:=fun σ H R=>tl σ H fun x H1=>∃ a,x=.ref a/\(∃ xs,SqT K H1 a xs)/\R (Itt K a) H1
theorem Zbo {l:Expr}{tl:TE}(G:PE X l tl):PI X tg l (ZmZ X.K tl):=by
 intro pins s σ H R I h
 refine Zu (G pins s σ H _ I h) fun v s1 ⟨x,H1,z,S,B⟩=>?_
 obtain ⟨a,e,⟨xs,Y⟩,q⟩:=B
 subst e
 cases S
 obtain ⟨W,rv,p,Z⟩:=z.list Y
 refine RV p.isList ?_
 refine ⟨s1.heap.objs.size,[s1.heap.objs.size],_,_,H1,rfl,z.kept (t':=s1.toks) fun b o e=>Qc _ e,ZgA a _,⟨_,Qo _ rfl,rfl,rfl⟩,fun b J=>?_,q⟩
 have e:b=s1.heap.objs.size:=by simpa using J
 subst e
 exact z.fpOk (Qg _) (z.hok.fresh (Qg _))
theorem ZcF {l:Expr}{tl:TE}(J:PE X l tl):PI X tg l (iTup X.K tl):=by
 intro pins s σ H R I h
 refine Zu (J pins s σ H _ I h) fun v s1 ⟨x,H1,z,W,G⟩=>?_
 obtain ⟨a,e,⟨xs,Y⟩,q⟩:=G
 subst e
 cases W
 obtain ⟨B,rv,p,Z⟩:=z.tuple Y
 refine RB (show s1.heap.IsTuple a B.toArray from p) ?_
 refine ⟨s1.heap.objs.size,[s1.heap.objs.size],_,_,H1,rfl,z.kept (t':=s1.toks) fun b o e=>Qc _ e,ZeY a _,⟨_,Qo _ rfl,rfl,rfl⟩,fun b S=>?_,q⟩
 have e:b=s1.heap.objs.size:=by simpa using S
 subst e
 exact z.fpOk (Qg _) (z.hok.fresh (Qg _))
theorem Zil {pins:List (Addr×Obj)}{σ:St}{H:Hp}{s:Qd}{R:It->Hp->Prop}{E:Qb->Qd->Prop}{lo hi:Int}{t u v:Tok}{tk:Nat}(I:Inv X pins σ H s)(h1:-(2 ^ 62)<=lo)(h2:lo < 2 ^ 62)(J:-(2 ^ 62)<=hi)(B:hi < 2 ^ 62)
 (q:R (Itr lo (hi - lo).toNat) H):Qp (Qs X.prog X.w) X.A (pyIter (.ref s.heap.objs.size)) (PIE X pins σ tg R) E { s with heap:=s.heap.push { cls:=.type "range",data:=.fields #[.int lo t,.int hi u,.int 1 v] },toks:=tk }:=by
 refine wpAny_pyIter_range (IsRange.new ..) (small_one h1 h2 J B) ?_
 have z:Inv X pins σ H { s with heap:=s.heap.push { cls:=.type "range",data:=.fields #[.int lo t,.int hi u,.int 1 v] },toks:=tk }:=I.kept fun b o e=>Qc _ e
 refine ⟨(s.heap.push { cls:=.type "range",data:=.fields #[.int lo t,.int hi u,.int 1 v] }).objs.size,[(s.heap.push { cls:=.type "range",data:=.fields #[.int lo t,.int hi u,.int 1 v] }).objs.size],_,_,H,rfl,
  z.kept (t':=tk) fun b o e=>Qc _ e,ZfP _ lo (hi - lo).toNat,?_,fun b G=>?_,q⟩
 ·have e1:lo+((0:Nat):Int) * 1=lo:=by simp
  have S:(((hi - lo).toNat:Nat):Int) - ((0:Nat):Int)=Builtin.Range.rangeSize lo hi 1:=by rw [rangeSize_one];split<;>omega
  show IsRangeIter _ _ (lo+((0:Nat):Int) * 1) ((((hi - lo).toNat:Nat):Int) - ((0:Nat):Int)) 1
  rw [e1,S]
  exact Qo _ rfl
 ·have e:b=(s.heap.push { cls:=.type "range",data:=.fields #[.int lo t,.int hi u,.int 1 v] }).objs.size:=by simpa using G
  subst e
  exact z.fpOk (Qg _) (z.hok.fresh (Qg _))
def Zna (ta:TA):TI:=fun σ H R=>ta σ H fun vs H1=>∃ j:Int,vs=[.int j]/\-(2 ^ 62)<=j/\j < 2 ^ 62/\R (Itr 0 j.toNat) H1
theorem YS {a:Expr}{ta:TA}{p pos:Pos}(J:Gl X "range")(S:X.mg "range"=none)(G:PA X [a] ta)(B:Qz [a] X.env=[(false,eval a X.env)]:=by rfl):PI X tg (.Call (.Name "range" p) [a] [] pos) (Zna ta):=by
 intro pins s σ H R I h
 refine Call_ (Ww I J S boot_range (Gy (Zu (G pos pins s σ H _ I h) fun us s1 ⟨vs,H1,W,Y,z⟩=>?_) B rfl))
 obtain ⟨j,e,z,Z,q⟩:=z
 subst e
 cases Y with
 | cons r rr =>
  cases rr
  obtain ⟨t,rfl⟩:=r
  exact call_range_1 (Zil W (by omega) (by omega) z Z (by simpa using q))
def tFor (wi:TI)(g:TG)(tb:TS):TS:=fun D σ H=>wi σ H fun J H1=>∃ W:Nat->Nat->St->Hp->Prop,(∃ m,W 0 m σ H1)/\∀ i m σ H,W i m σ H ->
 (J.stop i H/\D.nx σ H)\/(J.go i H/\∃ N:St->Hp->Prop,(∀ σ' H',N σ' H'->∃ m',m' < m/\W (i+1) m' σ' H')/\∀ x H',J.yld i H x H'->g x σ H' fun σ2 H2=>tb { D with nx:=N,ct:=N,bk:=D.nx } σ2 H2)
def ZaF (fp:List Addr)(h:Heap):List (Addr×Obj):=fp.filterMap fun b=>(h.get? b).map fun o=>(b,o)
theorem Xr {fp:List Addr}{h:Heap}{b:Addr}{o:Obj}(z:b∈fp)(e:h.get? b=some o):(b,o)∈ZaF fp h:=mem_filterMap.mpr ⟨b,z,by rw [e];rfl⟩
theorem Zhb {fp:List Addr}{h:Heap}{p:Addr×Obj}(hp:p∈ZaF fp h):p.1∈fp/\h.get? p.1=some p.2:=by
 obtain ⟨b,B,e⟩:=mem_filterMap.mp hp
 cases q:h.get? b with
 | none=>rw [q] at e;cases e
 | some o =>
  rw [q] at e
  have z:(b,o)=p:=Qv e
  subst z
  exact ⟨B,q⟩
theorem Inv.pinned {pins:List (Addr×Obj)}{σ:St}{H:Hp}{s:Qd}{fp:List Addr}(I:Inv X pins σ H s)(S:∀ b∈fp,Xy X pins H b)(Y:∀ b∈fp,∃ o,s.heap.get? b=some o/\∀ v,o.data≠.cell v):Inv X (pins++ZaF fp s.heap) σ H s :=
 I.pins_of fun p hp=>(mem_append.mp hp).elim (fun z=>I.pin p (mem_append_right _ z)) fun z=>by
  obtain ⟨G,e⟩:=Zhb z
  obtain ⟨Z,J,W,_⟩:=S p.1 G
  obtain ⟨o,B,d⟩:=Y p.1 G
  rw [e] at B;cases B
  exact ⟨e,Z,J,W,d⟩
theorem Inv.unpinned {pins pl:List (Addr×Obj)}{σ:St}{H:Hp}{s:Qd}(I:Inv X (pins++pl) σ H s):Inv X pins σ H s:=I.pins_of fun p hp=>I.pin p (mem_append_right _ (Jl _ hp))
theorem Wy {iter:Expr}{body:List Stmt}{wi:TI}{g:TG}{tb:TS}{pos:Pos}(hp:PassesOwn (Qs X.prog X.w) X.A X.env X.xe)(hc:X.calm=true)(hi:PI X tg iter wi)(hg:PG X tg g)(G:PSs X body tb)
 (hs:∀ x,Gh iter X.env x=pure x:=by intro _;rfl):PS X (.For tg iter body [] pos) (tFor wi g tb):=by
 intro pins s σ H D I h
 refine wpAny_For (Zu (hi pins s σ H _ I h) fun v s1 h1=>Zu h1 fun itv s2 h2=>?_) hs
 obtain ⟨it,fp,tn,J,H2,e,I2,T,st2,f2,W,⟨m0,w0⟩,turn⟩:=h2
 subst e
 have S:∀ {H':Hp},(∀ b∈fp,H' b=none)->∀ b∈fp,Xy X pins H' b:=fun hn b G=>⟨hn b G,(f2 b G).2⟩
 refine codeAny_forLoop_any (fun n s'=>∃ i B H',Inv X pins B H' s'/\tn i s'.heap/\(∀ b∈fp,H' b=none)/\W i n B H') ?_ m0 ⟨0,σ,H2,I2,st2,fun b G=>(f2 b G).1,w0⟩
 rintro n s3 ⟨i,σ3,H3,I3,st3,fr3,w3⟩
 rcases turn i n σ3 H3 w3 with ⟨stop,qn⟩ | ⟨go,N,hN,step⟩
 ·refine GG hp (Zu (T.done X rfl rfl rfl hc i pins s3 σ3 H3 X.xe I3 (S fr3) st3 stop) fun r s4 ⟨hr,I4⟩=>?_)
  subst hr
  exact Pm ⟨σ3,H3,I4,qn⟩
 ·refine GG hp (Zu (T.item X rfl rfl rfl hc i pins s3 σ3 H3 X.xe I3 (S fr3) st3 go) fun r s4 ⟨u,hr,h4⟩=>?_)
  subst hr
  refine GG hp (Zu h4 fun _ s5 ⟨x,H5,I5,r5,y5,st5,fr5⟩=>?_)
  have I5':=I5.pinned (S fr5) (T.obj _ _ st5)
  refine GG hp (Zu (hg _ s5 σ3 H5 x u _ I5' r5 (step x H5 y5)) fun _ s6 ⟨σ6,H6,I6,q6⟩=>?_)
  refine GG hp (Zu (G _ s6 σ6 H6 _ I6 q6) fun f s7 q7=>?_)
  have again:∀ {z:St} {Z:Hp},Inv X (pins++ZaF fp s5.heap) z Z s7->N z Z->∃ m,m < n/\∃ i B H',Inv X pins B H' s7/\tn i s7.heap/\(∀ b∈fp,H' b=none)/\W i m B H':=fun {z Z} Y n7=>by
   obtain ⟨m',hm,w7⟩:=hN z Z n7
   refine ⟨m',hm,i+1,z,Z,Y.unpinned,T.keep _ _ _ st5 fun b G o e=>(Y.pin (b,o) (mem_append_right _ (mem_append_right _ (Xr G e)))).1,fun b G=>?_,w7⟩
   obtain ⟨o,e,d⟩:=T.obj _ _ st5 b G
   exact (Y.pin (b,o) (mem_append_right _ (mem_append_right _ (Xr G e)))).2.1
  cases f with
  | next=>obtain ⟨z,Z,Y,n7⟩:=q7;exact again Y n7
  | cont=>obtain ⟨z,Z,Y,n7⟩:=q7;exact again Y n7
  | brk=>obtain ⟨z,Z,Y,q7⟩:=q7;exact ⟨z,Z,Y.unpinned,q7⟩
  | ret v=>obtain ⟨x7,z,Z,Y,r7,q7⟩:=q7;exact ⟨x7,z,Z,Y.unpinned,r7,q7⟩
end
theorem Zdv {K:Qa}{a:Addr}{xs:List V}{g:TG}{tb:TS}{D:YN}{σ:St}{H:Hp}(z:Nat->St->Hp->Prop)(h0:z 0 σ H)(Y:∀ i σ H,i<=xs.length->z i σ H->SqL K H a xs)
 (S:∀ i x σ H,xs[i]?=some x->z i σ H->g x σ H fun B H2=>tb { D with nx:=z (i+1),ct:=z (i+1),bk:=D.nx } B H2) (hd:∀ σ H,z xs.length σ H->D.nx σ H) :
 ∃ W:Nat->Nat->St->Hp->Prop,(∃ m,W 0 m σ H)/\∀ i m σ H,W i m σ H ->
  ((Itl K a).stop i H/\D.nx σ H)\/((Itl K a).go i H/\∃ N:St->Hp->Prop,(∀ G H',N G H'->∃ J,J < m/\W (i+1) J G H')/\∀ x H',(Itl K a).yld i H x H'->g x σ H' fun B H2=>tb { D with nx:=N,ct:=N,bk:=D.nx } B H2):=by
 refine ⟨fun i m σ H=>m=xs.length - i/\i<=xs.length/\z i σ H,⟨xs.length,by simp,QF _,h0⟩,?_⟩
 rintro i m σ H ⟨rfl,hi,p⟩
 have q:=Y i σ H hi p
 by_cases I:i < xs.length
 ·refine .inr ⟨⟨xs,xs[i],q,by simp [I]⟩,z (i+1),fun G H' Z=>⟨xs.length - (i+1),by omega,rfl,I,Z⟩,fun x H' y=>?_⟩
  obtain ⟨e,y⟩:=y
  subst e
  exact S i x σ _ (y xs q) p
 ·have e:i=xs.length:=by omega
  subst e
  exact .inl ⟨⟨xs,q,Qg _⟩,hd σ H p⟩
theorem ZkC {K:Qa}{a:Addr}{xs:List V}{g:TG}{tb:TS}{D:YN}{σ:St}{H:Hp}(z:Nat->St->Hp->Prop)(h0:z 0 σ H)(Y:∀ i σ H,i<=xs.length->z i σ H->SqT K H a xs)
 (S:∀ i x σ H,xs[i]?=some x->z i σ H->g x σ H fun B H2=>tb { D with nx:=z (i+1),ct:=z (i+1),bk:=D.nx } B H2) (hd:∀ σ H,z xs.length σ H->D.nx σ H) :
 ∃ W:Nat->Nat->St->Hp->Prop,(∃ m,W 0 m σ H)/\∀ i m σ H,W i m σ H ->
  ((Itt K a).stop i H/\D.nx σ H)\/((Itt K a).go i H/\∃ N:St->Hp->Prop,(∀ G H',N G H'->∃ J,J < m/\W (i+1) J G H')/\∀ x H',(Itt K a).yld i H x H'->g x σ H' fun B H2=>tb { D with nx:=N,ct:=N,bk:=D.nx } B H2):=by
 refine ⟨fun i m σ H=>m=xs.length - i/\i<=xs.length/\z i σ H,⟨xs.length,by simp,QF _,h0⟩,?_⟩
 rintro i m σ H ⟨rfl,hi,p⟩
 have q:=Y i σ H hi p
 by_cases I:i < xs.length
 ·refine .inr ⟨⟨xs,xs[i],q,by simp [I]⟩,z (i+1),fun G H' Z=>⟨xs.length - (i+1),by omega,rfl,I,Z⟩,fun x H' y=>?_⟩
  obtain ⟨e,y⟩:=y
  subst e
  exact S i x σ _ (y xs q) p
 ·have e:i=xs.length:=by omega
  subst e
  exact .inl ⟨⟨xs,q,Qg _⟩,hd σ H p⟩
theorem Uq {lo:Int}{n:Nat}{g:TG}{tb:TS}{D:YN}{σ:St}{H:Hp}(z:Nat->St->Hp->Prop)(h0:z 0 σ H)
 (S:∀ i σ H,i < n->z i σ H->g (.int (lo+i)) σ H fun B H2=>tb { D with nx:=z (i+1),ct:=z (i+1),bk:=D.nx } B H2) (Z:∀ σ H,z n σ H->D.nx σ H) :
 ∃ W:Nat->Nat->St->Hp->Prop,(∃ m,W 0 m σ H)/\∀ i m σ H,W i m σ H ->
  ((Itr lo n).stop i H/\D.nx σ H)\/((Itr lo n).go i H/\∃ N:St->Hp->Prop,(∀ I H',N I H'->∃ J,J < m/\W (i+1) J I H')/\∀ x H',(Itr lo n).yld i H x H'->g x σ H' fun B H2=>tb { D with nx:=N,ct:=N,bk:=D.nx } B H2):=by
 refine ⟨fun i m σ H=>m=n - i/\i<=n/\z i σ H,⟨n,by simp,QF _,h0⟩,?_⟩
 rintro i m σ H ⟨rfl,hi,p⟩
 by_cases G:i < n
 ·refine .inr ⟨G,z (i+1),fun I H' Y=>⟨n - (i+1),by omega,rfl,G,Y⟩,fun x H' y=>?_⟩
  obtain ⟨e,y⟩:=y
  subst e y
  exact S i σ _ G p
 ·have e:i=n:=by omega
  subst e
  exact .inl ⟨Qg _,Z σ H p⟩
abbrev R2:=V->V->Hp->VK->Prop
def YY (X:Cx)(f:Qb->Qb->Sem Qb)(r:R2):Prop :=
 ∀ (pins:List (Addr×Obj)) (s:Qd) (σ:St) (H:Hp) (x y:V) (v u:Qb) (Q:VK),Inv X pins σ H s->RelV x v->RelV y u->r x y H Q ->
  Qp (Qs X.prog X.w) X.A (f v u) (EP X pins σ Q) X.xe s
def UnR (X:Cx)(f:Qb->Sem Qb)(r:V->Hp->VK->Prop):Prop :=
 ∀ (pins:List (Addr×Obj)) (s:Qd) (σ:St) (H:Hp) (x:V) (v:Qb) (Q:VK),Inv X pins σ H s->RelV x v->r x H Q ->
  Qp (Qs X.prog X.w) X.A (f v) (EP X pins σ Q) X.xe s
def YD (X:Cx)(f:Qb)(r:List V->Hp->VK->Prop):Prop :=
 ∀ (pins:List (Addr×Obj)) (s:Qd) (σ:St) (H:Hp) (xs:List V) (us:List Qb) (Q:VK),Inv X pins σ H s->Vals xs us->r xs H Q ->
  Qp (Qs X.prog X.w) X.A (call f us) (EP X pins σ Q) X.xe s
def TruR (X:Cx)(r:V->Hp->(Bool->Hp->Prop)->Prop):Prop :=
 ∀ (pins:List (Addr×Obj)) (s:Qd) (σ:St) (H:Hp) (x:V) (v:Qb) (Q:Bool->Hp->Prop),Inv X pins σ H s->RelV x v->r x H Q ->
  Qp (Qs X.prog X.w) X.A (truthy v) (TP X pins σ Q) X.xe s
def tOp (r:R2)(ta tb:TE):TE:=fun σ H Q=>ta σ H fun x H1=>tb σ H1 fun y H2=>r x y H2 Q
def tUn (r:V->Hp->VK->Prop)(ta:TE):TE:=fun σ H Q=>ta σ H fun x H1=>r x H1 Q
def rI (C:Int->Int->Prop)(g:Int->Int->V):R2:=fun x y H Q=>∃ i j,x=.int i/\y=.int j/\C i j/\Q (g i j) H
def rI0 (g:Int->Int->V):R2:=fun x y H Q=>∃ i j,x=.int i/\y=.int j/\Q (g i j) H
def rU (g:Int->V):V->Hp->VK->Prop:=fun x H Q=>∃ i,x=.int i/\Q (g i) H
section
variable {X:Cx}{a b c:Expr}{ta tb tc:TE}{pos:Pos}
theorem ZhZ (S:PE X a ta)(Y:PE X b tb){pins:List (Addr×Obj)}{s:Qd}{σ:St}{H:Hp}{R:V->V->Hp->Prop}(I:Inv X pins σ H s)
 (h:ta σ H fun x H1=>tb σ H1 fun y H2=>R x y H2) {Q:Qb->Qd->Prop} {f:Qb->Qb->Sem Qb}
 (Z:∀ v u s2 x y H2,Inv X pins σ H2 s2->RelV x v->RelV y u->R x y H2->Qp (Qs X.prog X.w) X.A (f v u) Q X.xe s2) :
 Qp (Qs X.prog X.w) X.A (eval a X.env) (fun v z=>Qp (Qs X.prog X.w) X.A (eval b X.env) (fun u B=>Qp (Qs X.prog X.w) X.A (f v u) Q X.xe B) X.xe z) X.xe s:=by
 refine Zu (S pins s σ H _ I h) fun v s1 ⟨x,H1,I1,r1,W⟩=>?_
 refine Zu (Y pins s1 σ H1 _ I1 W) fun u s2 ⟨y,H2,J,r2,G⟩=>?_
 exact Z v u s2 x y H2 J r1 r2 G
theorem Zs {z:Operator}{r:R2}(B:YY X (Ju z) r)(S:PE X a ta)(Y:PE X b tb):PE X (.BinOp a z b pos) (tOp r ta tb):=by
 intro pins s σ H Q I h
 exact wpAny_BinOp (ZhZ S Y I h fun v u s2 x y H2 G J W q=>B pins s2 σ H2 x y v u Q G J W q)
theorem UN {z:UnaryOp}{r:V->Hp->VK->Prop}(W:UnR X (unaryOp z) r)(G:PE X a ta):PE X (.UnaryOp z a pos) (tUn r ta):=by
 intro pins s σ H Q I h
 exact UnaryOp_ (Zu (G pins s σ H _ I h) fun v s1 ⟨x,H1,J,S,B⟩=>W pins s1 σ H1 x v Q J S B)
theorem opI {f:Qb->Qb->Sem Qb}{C:Int->Int->Prop}{g:Int->Int->Int}
 (rule:∀ (i j:Int) (t u:Tok) (s:Qd) (Q:Qb->Qd->Prop) (E:Qb->Qd->Prop),C i j->Q (.int (g i j) s.toks) { s with toks:=s.toks+1 }->Qp (Qs X.prog X.w) X.A (f (.int i t) (.int j u)) Q E s) :
 YY X f (rI C fun i j=>.int (g i j)):=by
 intro pins s σ H x y v u Q I z B h
 obtain ⟨i,j,rfl,rfl,G,q⟩:=h
 obtain ⟨t,rfl⟩:=z
 obtain ⟨t',rfl⟩:=B
 exact rule i j t t' s _ _ G ⟨.int (g i j),H,I.tok _,⟨_,rfl⟩,q⟩
theorem opI0 {f:Qb->Qb->Sem Qb}{g:Int->Int->Int}
 (rule:∀ (i j:Int) (t u:Tok) (s:Qd) (Q:Qb->Qd->Prop) (E:Qb->Qd->Prop),Q (.int (g i j) s.toks) { s with toks:=s.toks+1 }->Qp (Qs X.prog X.w) X.A (f (.int i t) (.int j u)) Q E s) :
 YY X f (rI0 fun i j=>.int (g i j)):=by
 intro pins s σ H x y v u Q I z B h
 obtain ⟨i,j,rfl,rfl,q⟩:=h
 obtain ⟨t,rfl⟩:=z
 obtain ⟨t',rfl⟩:=B
 exact rule i j t t' s _ _ ⟨.int (g i j),H,I.tok _,⟨_,rfl⟩,q⟩
theorem Zfq {f:Qb->Qb->Sem Qb}{g:Int->Int->Bool}
 (rule:∀ (i j:Int) (t u:Tok) (s:Qd) (Q:Qb->Qd->Prop) (E:Qb->Qd->Prop),Q (.bool (g i j)) s->Qp (Qs X.prog X.w) X.A (f (.int i t) (.int j u)) Q E s) :
 YY X f (rI0 fun i j=>.bl (g i j)):=by
 intro pins s σ H x y v u Q I z B h
 obtain ⟨i,j,rfl,rfl,q⟩:=h
 obtain ⟨t,rfl⟩:=z
 obtain ⟨t',rfl⟩:=B
 exact rule i j t t' s _ _ ⟨.bl (g i j),H,I,rfl,q⟩
def CDiv (i j:Int):Prop:=0 < j/\j < 1073741824
def CPow (i j:Int):Prop:=0<=j/\j<=1000000/\i.natAbs < 2 ^ 64
def CMul (i j:Int):Prop:=(-(2 ^ 64) < i/\i < 2 ^ 64)\/(-(2 ^ 64) < j/\j < 2 ^ 64)
theorem CMul.ok {i j:Int}(h:CMul i j):IntMulOk i j:=by
 rcases h with ⟨h1,h2⟩ | ⟨h1,h2⟩
 ·exact .of_left (intBits_le_64 h1 h2)
 ·exact .of_right (intBits_le_64 h1 h2)
theorem Yq:YY X (Ju .Add) (rI0 fun i j=>.int (i+j)):=opI0 fun _ _ _ _ _ _ _ q=>add_int q
theorem Ys:YY X (Ju .Sub) (rI0 fun i j=>.int (i - j)):=opI0 fun _ _ _ _ _ _ _ q=>sub_int q
theorem WC:YY X (Ju .Mult) (rI CMul fun i j=>.int (i * j)):=opI fun _ _ _ _ _ _ _ z q=>mul_int q z.ok
theorem Zeo:YY X (Ju .FloorDiv) (rI CDiv fun i j=>.int (i / j)):=opI fun i j _ _ _ _ _ z q=>by
 have h1:(0:Int) < j:=z.1
 have h2:j < 1073741824:=z.2
 exact floordiv_int (by omega) (by rw [Jn i (by omega)];exact q) (.inl (Sf (by omega)))
theorem XA:YY X (Ju .Mod) (rI (fun _ j=>0 < j) fun i j=>.int (i % j)):=opI fun i j _ _ _ _ _ z q=>by
 have h1:(0:Int) < j:=z
 exact mod_int' (by omega) (by rw [PN i (by omega)];exact q)
theorem Vq:YY X (Ju .Pow) (rI CPow fun i j=>.int (i ^ j.toNat)):=opI fun _ _ _ _ _ _ _ z q=>pow_int_small z.1 z.2.1 z.2.2 q
theorem unI {f:Qb->Sem Qb}{g:Int->Int}
 (rule:∀ (i:Int) (t:Tok) (s:Qd) (Q:Qb->Qd->Prop) (E:Qb->Qd->Prop),Q (.int (g i) s.toks) { s with toks:=s.toks+1 }->Qp (Qs X.prog X.w) X.A (f (.int i t)) Q E s) :
 UnR X f (rU fun i=>.int (g i)):=by
 intro pins s σ H x v Q I z h
 obtain ⟨i,rfl,q⟩:=h
 obtain ⟨t,rfl⟩:=z
 exact rule i t s _ _ ⟨.int (g i),H,I.tok _,⟨_,rfl⟩,q⟩
theorem Uc:UnR X (unaryOp .USub) (rU fun i=>.int (-i)):=unI fun _ _ _ _ _ q=>neg_int q
end
def scal:V->V->Bool
 | .non,.non=>true | .non,.int _=>true | .int _,.non=>true | .non,.bl _=>true | .bl _,.non=>true | .non,.str _=>true | .str _,.non=>true
 | .int _,.int _=>true | .bl _,.bl _=>true | .str _,.str _=>true | .byt _,.byt _=>true
 | .int _,.str _=>true | .str _,.int _=>true | .bl _,.str _=>true | .str _,.bl _=>true
 | _,_=>false
def rEq:R2:=fun x y H Q=>scal x y=true/\Q (.bl (decide (x=y))) H
def rNe:R2:=fun x y H Q=>scal x y=true/\Q (.bl (!decide (x=y))) H
theorem Zef {i j:Int}:decide (V.int i=V.int j)=(i == j):=by
 rw [Pq]
 simp
theorem Zgp {i j:Bool}:decide (V.bl i=V.bl j)=(i == j):=by
 rw [Pq]
 simp
theorem Zem {i j:Str}:decide (V.str i=V.str j)=(i == j):=by
 rw [Pq]
 simp
theorem ZeI {i j:Array UInt8}:decide (V.byt i=V.byt j)=(i.toList == j.toList):=by
 rw [Pq]
 cases i
 cases j
 simp
section
variable {X:Cx}{a b c:Expr}{ta tb tc:TE}{pos:Pos}
theorem ZW {pins:List (Addr×Obj)}{σ:St}{H:Hp}{s:Qd}{Q:VK}{k z:Bool}(I:Inv X pins σ H s)(q:Q (.bl k) H)(e:k=z):EP X pins σ Q (.bool z) s:=by
 subst e
 exact ⟨.bl k,H,I,rfl,q⟩
theorem ZU:YY X (Gu .Eq) rEq:=by
 intro pins s σ H x y v u Q I G z h
 obtain ⟨B,q⟩:=h
 cases x with
 | non =>
  cases G
  cases y with
  | non=>cases z;exact PySem.EqNone.eq_none_none (ZW I q (by simp))
  | bl j=>cases z;exact PySem.EqNone.eq_none_bool (ZW I q (by simp))
  | int j=>obtain ⟨t',rfl⟩:=z;exact PySem.EqNone.eq_none_int (ZW I q (by simp))
  | str j=>obtain ⟨t',rfl⟩:=z;exact PySem.EqNone.eq_none_str (ZW I q (by simp))
  | _=>exact absurd (show false=true from B) Qt
 | bl i =>
  cases G
  cases y with
  | non=>cases z;exact PySem.EqNone.eq_bool_none (ZW I q (by simp))
  | bl j=>cases z;exact eq_bool (ZW I q Zgp)
  | str j=>obtain ⟨t',rfl⟩:=z;exact PySem.EqMixed.eq_bool_str (ZW I q (by simp))
  | _=>exact absurd (show false=true from B) Qt
 | int i =>
  obtain ⟨t,rfl⟩:=G
  cases y with
  | non=>cases z;exact PySem.EqNone.eq_int_none (ZW I q (by simp))
  | int j=>obtain ⟨t',rfl⟩:=z;exact eq_int (ZW I q Zef)
  | str j=>obtain ⟨t',rfl⟩:=z;exact PySem.EqMixed.eq_int_str (ZW I q (by simp))
  | _=>exact absurd (show false=true from B) Qt
 | str i =>
  obtain ⟨t,rfl⟩:=G
  cases y with
  | non=>cases z;exact PySem.EqNone.eq_str_none (ZW I q (by simp))
  | bl j=>cases z;exact PySem.EqMixed.eq_str_bool (ZW I q (by simp))
  | int j=>obtain ⟨t',rfl⟩:=z;exact PySem.EqMixed.eq_str_int (ZW I q (by simp))
  | str j=>obtain ⟨t',rfl⟩:=z;exact eq_str (ZW I q Zem)
  | _=>exact absurd (show false=true from B) Qt
 | byt i =>
  obtain ⟨t,rfl⟩:=G
  cases y with
  | byt j=>obtain ⟨t',rfl⟩:=z;exact PySem.W.eq_bytes (ZW I q ZeI)
  | _=>exact absurd (show false=true from B) Qt
 | _=>cases y<;>exact absurd (show false=true from B) Qt
theorem ZeZ:YY X (Gu .NotEq) rNe:=by
 intro pins s σ H x y v u Q I G z h
 obtain ⟨B,q⟩:=h
 cases x with
 | non =>
  cases G
  cases y with
  | non=>cases z;exact PySem.EqNone.ne_none_none (ZW I q (by simp))
  | bl j=>cases z;exact PySem.EqNone.ne_none_bool (ZW I q (by simp))
  | int j=>obtain ⟨t',rfl⟩:=z;exact PySem.EqNone.ne_none_int (ZW I q (by simp))
  | str j=>obtain ⟨t',rfl⟩:=z;exact PySem.EqNone.ne_none_str (ZW I q (by simp))
  | _=>exact absurd (show false=true from B) Qt
 | bl i =>
  cases G
  cases y with
  | non=>cases z;exact PySem.EqNone.ne_bool_none (ZW I q (by simp))
  | bl j=>cases z;exact ne_bool (ZW I q (congrArg not Zgp))
  | str j=>obtain ⟨t',rfl⟩:=z;exact PySem.EqMixed.ne_bool_str (ZW I q (by simp))
  | _=>exact absurd (show false=true from B) Qt
 | int i =>
  obtain ⟨t,rfl⟩:=G
  cases y with
  | non=>cases z;exact PySem.EqNone.ne_int_none (ZW I q (by simp))
  | int j=>obtain ⟨t',rfl⟩:=z;exact ne_int (ZW I q (congrArg not Zef))
  | str j=>obtain ⟨t',rfl⟩:=z;exact PySem.EqMixed.ne_int_str (ZW I q (by simp))
  | _=>exact absurd (show false=true from B) Qt
 | str i =>
  obtain ⟨t,rfl⟩:=G
  cases y with
  | non=>cases z;exact PySem.EqNone.ne_str_none (ZW I q (by simp))
  | bl j=>cases z;exact PySem.EqMixed.ne_str_bool (ZW I q (by simp))
  | int j=>obtain ⟨t',rfl⟩:=z;exact PySem.EqMixed.ne_str_int (ZW I q (by simp))
  | str j=>obtain ⟨t',rfl⟩:=z;exact ne_str (ZW I q (congrArg not Zem))
  | _=>exact absurd (show false=true from B) Qt
 | byt i =>
  obtain ⟨t,rfl⟩:=G
  cases y with
  | byt j=>obtain ⟨t',rfl⟩:=z;exact PySem.W.ne_bytes (ZW I q (congrArg not ZeI))
  | _=>exact absurd (show false=true from B) Qt
 | _=>cases y<;>exact absurd (show false=true from B) Qt
theorem VM:YY X (Gu .Lt) (rI0 fun i j=>.bl (decide (i < j))):=Zfq fun _ _ _ _ _ _ _ q=>lt_int q
theorem ZiY:YY X (Gu .LtE) (rI0 fun i j=>.bl (decide (i<=j))):=Zfq fun _ _ _ _ _ _ _ q=>le_int q
theorem ZiV:YY X (Gu .Gt) (rI0 fun i j=>.bl (decide (j < i))):=Zfq fun _ _ _ _ _ _ _ q=>gt_int q
theorem ZjA:YY X (Gu .GtE) (rI0 fun i j=>.bl (decide (j<=i))):=Zfq fun _ _ _ _ _ _ _ q=>ge_int q
theorem ZB (b:Expr){z:CmpOp}(h:z≠.In:=by decide)(h2:z≠.NotIn:=by decide):GQ z b=false:=by
 have e1:(z == CmpOp.In)=false:=by cases z<;>first | rfl | exact absurd rfl h
 have B:(z == CmpOp.NotIn)=false:=by cases z<;>first | rfl | exact absurd rfl h2
 cases b<;>simp [GQ,e1,B]
theorem Xa {z:CmpOp}{r:R2}(B:YY X (Gu z) r)(S:PE X a ta)(Y:PE X b tb)(Z:GQ z b=false):PE X (.Compare a [z] [b] pos) (tOp r ta tb):=by
 intro pins s σ H Q I h
 exact wpAny_Compare1 (ZhZ S Y I h fun v u s2 x y H2 G J W q=>B pins s2 σ H2 x y v u Q G J W q) Z
def Zjl (t:TE):TT:=fun σ H Q=>t σ H fun x H'=>∃ k,x=.bl k/\Q k H'
theorem ZE {B:CmpOp}{r:R2}(G:YY X (Gu B) r)(W:PE X a ta)(Z:PE X b tb)(hm:GQ B b=false):PT X (.Compare a [B] [b] pos) (Zjl (tOp r ta tb)):=by
 intro pins s σ H Q I h
 refine Sz (Zu (W pins s σ H _ I h) fun v s1 ⟨x,H1,I1,r1,Y⟩=>Zu (Z pins s1 σ H1 _ I1 Y) fun u s2 ⟨y,H2,S,r2,q2⟩ =>
  Zu (G pins s2 σ H2 x y v u _ S r1 r2 q2) fun c s3 ⟨z,H3,I3,J,k,e,q3⟩=>?_) hm
 subst e
 cases J
 exact QY ⟨H3,I3,q3⟩
def ZkW (r r':R2)(ta tb tc:TE):TE:=fun σ H Q=>ta σ H fun x H1=>tb σ H1 fun y H2=>r x y H2 fun z H3=>∃ k,z=.bl k /\
 (if k=true then tc σ H3 fun w' H4=>r' y w' H4 Q else Q (.bl false) H3)
theorem Zde {G B:CmpOp}{r Y:R2}(ho:YY X (Gu G) r)(J:YY X (Gu B) Y)(ha:PE X a ta)(hb:PE X b tb)(hc:PE X c tc)
 (hm:lastMarks [G,B] [b,c]=false:=by with_unfolding_all rfl):PT X (.Compare a [G,B] [b,c] pos) (Zjl (ZkW r Y ta tb tc)):=by
 intro pins s σ H Q I h
 refine isTrue_chain (Zu (ha pins s σ H _ I h) fun v s1 ⟨x,H1,I1,r1,q1⟩=>test_link (Zu (hb pins s1 σ H1 _ I1 q1) fun u s2 ⟨y,H2,I2,Z,q2⟩ =>
  Zu (ho pins s2 σ H2 x y v u _ I2 r1 Z q2) fun d s3 ⟨z,S,W,r3,k,e,q3⟩=>?_)) hm
 subst e
 cases r3
 refine QY ?_
 cases k with
 | false =>
  obtain ⟨k',e',q'⟩:=q3
  cases e'
  exact ite_ff ⟨S,W,q'⟩
 | true =>
  refine ite_tt (test_last (Zu (hc pins s3 σ S _ W q3) fun w' s4 ⟨z',H4,I4,r4,q4⟩=>Zu (J pins s4 σ H4 y z' u w' _ I4 Z r4 q4) fun d' s5 ⟨z2,H5,I5,r5,k2,e2,q5⟩=>?_))
  subst e2
  cases r5
  exact QY ⟨H5,I5,q5⟩
def TruV (K:Qa)(x:V)(H:Hp)(k:Bool):Prop :=
 match x with
 | .non=>k=false
 | .bl b=>k=b
 | .int i=>k=(i != 0)
 | .str y=>y.length<=Qh/\k=((y.length:Int) != 0)
 | .byt y=>y.size<=Qh/\k=((y.size:Int) != 0)
 | .ref p=>(∃ xs,SqL K H p xs/\k=!xs.isEmpty)\/(∃ xs,SqT K H p xs/\k=!xs.isEmpty)\/∃ kvs,H p=some (.dK kvs)/\k=!kvs.isEmpty
 | _=>False
theorem ZfT {κ:Type}{kvs:List (κ×V)}{vs:List (κ×Qb)}(r:KV kvs vs):(!vs.isEmpty)=!kvs.isEmpty:=by
 cases r<;>rfl
theorem ZaK {xs:List V}{z:List Qb}(r:Vals xs z):(!z.toArray.isEmpty)=!xs.isEmpty:=by
 cases r<;>simp
theorem WV:(Qh:Nat) < 2 ^ 63:=by rw [QZ];decide
theorem Zma:TruR X (fun x H Q=>∃ k,TruV X.K x H k/\Q k H):=by
 intro pins s σ H x v Q I G h
 obtain ⟨k,e,q⟩:=h
 have hl:=WV
 have hs:Qh=16777216:=QZ
 cases x with
 | non =>
  cases G
  have z:k=false:=e
  subst z
  exact truthy_none ⟨H,I,q⟩
 | bl b =>
  cases G
  have z:k=b:=e
  subst z
  exact QY ⟨H,I,q⟩
 | int i =>
  obtain ⟨t,rfl⟩:=G
  have z:k=(i != 0):=e
  subst z
  exact PySem.P.truthy_int ⟨H,I,q⟩
 | str y =>
  obtain ⟨t,rfl⟩:=G
  obtain ⟨hy,z⟩:y.length<=Qh/\k=((y.length:Int) != 0):=e
  subst z
  exact PySem.P.truthy_str (by omega) ⟨H,I.tok _,q⟩
 | byt y =>
  obtain ⟨t,rfl⟩:=G
  obtain ⟨hy,z⟩:y.size<=Qh/\k=((y.size:Int) != 0):=e
  subst z
  exact PySem.W.truthy_bytes (by omega) ⟨H,I.tok _,q⟩
 | ref p =>
  cases G
  have z:(∃ xs,SqL X.K H p xs/\k=!xs.isEmpty)\/(∃ xs,SqT X.K H p xs/\k=!xs.isEmpty)\/∃ kvs,H p=some (.dK kvs)/\k=!kvs.isEmpty:=e
  rcases z with ⟨xs,J,z⟩ | ⟨xs,J,z⟩ | ⟨kvs,J,z⟩
  ·subst z
   obtain ⟨S,r,pl,Y⟩:=I.list J
   have B:=r.length
   exact wpAny_truthy_list pl.isList (by simp only [size_toArray];omega) ⟨H,I.tok _,by rw [ZaK r];exact q⟩
  ·subst z
   obtain ⟨S,r,pl,Y⟩:=I.tuple J
   have B:=r.length
   exact truthy_tuple pl (by simp only [size_toArray];omega) ⟨H,I.tok _,by rw [ZaK r];exact q⟩
  ·subst z
   obtain ⟨Y,Z,vs,r,m⟩:kvs.length<=Qh/\(p == GO)=false/\∃ vs,KV kvs vs/\s.heap.DictOf (ZQ X.prog X.w) p vs:=I.hok p _ J
   have B:kvs.length=vs.length:=JZ r
   exact wpAny_truthy_dict Z m (by omega) ⟨H,I.tok _,by rw [ZfT r];exact q⟩
 | _=>exact (show False from e).elim
theorem UW (B:PE X a ta)(W:∀ z,isTrue a X.env z=(do let v <- z;Te a.pos;JB [v] (truthy v))) :
 PT X a (fun σ H Q=>ta σ H fun x H'=>∃ k,TruV X.K x H' k/\Q k H'):=by
 intro pins s σ H Q I h
 exact isTrue_plain (Zu (B pins s σ H _ I h) fun v s1 ⟨x,H1,J,S,G⟩=>Zma pins s1 σ H1 x v Q J S G) (W _)
theorem Wc:YY X (Ju .Add) (fun x y H Q=>∃ i j,x=.str i/\y=.str j/\i.length+j.length<=Qh/\Q (.str (i++j)) H):=by
 intro pins s σ H x y v u Q I B G h
 obtain ⟨i,j,rfl,rfl,z,q⟩:=h
 obtain ⟨t,rfl⟩:=B
 obtain ⟨t',rfl⟩:=G
 exact add_str (fun t' tk=>⟨.str (i++j),H,I.tok _,⟨_,rfl⟩,q⟩) z
theorem YC {x:V}{us:List Qb}(r:Vals [x] us):∃ u,us=[u]/\RelV x u:=by
 cases r with
 | cons r1 r2=>cases r2;exact ⟨_,rfl,r1⟩
theorem VH {x y:V}{us:List Qb}(r:Vals [x,y] us):∃ u z,us=[u,z]/\RelV x u/\RelV y z:=by
 cases r with
 | cons r1 r2 =>
  cases r2 with
  | cons r3 r4=>cases r4;exact ⟨_,_,rfl,r1,r3⟩
theorem Zdb:YD X (.builtin "abs") (fun xs H Q=>∃ i,xs=[.int i]/\Q (.int (if i < 0 then -i else i)) H):=by
 intro pins s σ H xs us Q I r h
 obtain ⟨i,rfl,q⟩:=h
 obtain ⟨u,rfl,t,rfl⟩:=YC r
 exact call_abs_int fun u tk=>⟨.int (if i < 0 then -i else i),H,I.tok _,⟨_,rfl⟩,q⟩
theorem Zhg (z:X.calm=true):YD X (.builtin "max") (fun xs H Q=>∃ i j,xs=[.int i,.int j]/\Q (.int (if j > i then j else i)) H):=by
 intro pins s σ H xs us Q I r h
 obtain ⟨i,j,rfl,q⟩:=h
 obtain ⟨u,B,rfl,⟨t,rfl⟩,⟨t',rfl⟩⟩:=VH r
 refine max_two_ints (I.ok.hd z) fun h' tk k=>⟨_,H,I.kept k,?_,q⟩
 by_cases hj:j > i
 ·rw [if_pos hj,if_pos hj];exact ⟨_,rfl⟩
 ·rw [if_neg hj,if_neg hj];exact ⟨_,rfl⟩
theorem Zgs (z:X.calm=true):YD X (.builtin "min") (fun xs H Q=>∃ i j,xs=[.int i,.int j]/\Q (.int (if j < i then j else i)) H):=by
 intro pins s σ H xs us Q I r h
 obtain ⟨i,j,rfl,q⟩:=h
 obtain ⟨u,B,rfl,⟨t,rfl⟩,⟨t',rfl⟩⟩:=VH r
 refine min_two_ints (I.ok.hd z) fun h' tk k=>⟨_,H,I.kept k,?_,q⟩
 by_cases hj:j < i
 ·rw [if_pos hj,if_pos hj];exact ⟨_,rfl⟩
 ·rw [if_neg hj,if_neg hj];exact ⟨_,rfl⟩
theorem VC:YD X (.type "int") (fun xs H Q=>(∃ i,xs=[.int i]/\Q (.int i) H)\/∃ k,xs=[.bl k]/\Q (.int (if k then 1 else 0)) H):=by
 intro pins s σ H xs us Q I r h
 rcases h with ⟨i,rfl,q⟩ | ⟨k,rfl,q⟩
 ·obtain ⟨u,rfl,t,rfl⟩:=YC r
  exact call_int_int ⟨.int i,H,I,⟨_,rfl⟩,q⟩
 ·obtain ⟨u,rfl,z⟩:=YC r
  cases z
  exact call_int_bool ⟨.int (if k then 1 else 0),H,I.tok _,⟨_,rfl⟩,q⟩
theorem Zdm:YD X (.builtin "ord") (fun xs H Q=>∃ x,xs=[.str x]/\x.length=1/\Q (.int (x.cps.getD 0 0:Nat)) H):=by
 intro pins s σ H xs us Q I r h
 obtain ⟨x,rfl,z,q⟩:=h
 obtain ⟨u,rfl,t,rfl⟩:=YC r
 exact ord_of_one z ⟨.int _,H,I.tok _,⟨_,rfl⟩,q⟩
def ZiC (K:Qa)(x:V)(H:Hp)(n:Nat):Prop :=
 match x with
 | .str y=>y.length<=Qh/\n=y.length
 | .byt y=>y.size<=Qh/\n=y.size
 | .ref p=>(∃ xs,SqL K H p xs/\n=xs.length)\/∃ xs,SqT K H p xs/\n=xs.length
 | _=>False
theorem Ziv:YD X (.builtin "len") (fun xs H Q=>∃ x n,xs=[x]/\ZiC X.K x H n/\Q (.int n) H):=by
 intro pins s σ H xs us Q I r h
 obtain ⟨x,n,rfl,e,q⟩:=h
 obtain ⟨u,rfl,G⟩:=YC r
 have hl:=WV
 have hs:Qh=16777216:=QZ
 cases x with
 | str y =>
  obtain ⟨t,rfl⟩:=G
  obtain ⟨hy,B⟩:y.length<=Qh/\n=y.length:=e
  subst B
  exact len_str (by omega) ⟨.int _,H,I.tok _,⟨_,rfl⟩,q⟩
 | byt y =>
  obtain ⟨t,rfl⟩:=G
  obtain ⟨hy,B⟩:y.size<=Qh/\n=y.size:=e
  subst B
  exact PySem.W.len_bytes (by omega) ⟨.int _,H,I.tok _,⟨_,rfl⟩,q⟩
 | ref p =>
  cases G
  have B:(∃ xs,SqL X.K H p xs/\n=xs.length)\/∃ xs,SqT X.K H p xs/\n=xs.length:=e
  rcases B with ⟨xs,Y,B⟩ | ⟨xs,Y,B⟩
  ·subst B
   obtain ⟨S,J,pl,Z⟩:=I.list Y
   have z:=J.length
   exact Rf pl.isList (by simp only [size_toArray];omega) ⟨.int xs.length,H,I.tok _,⟨_,by simp only [size_toArray];rw [z]⟩,q⟩
  ·subst B
   obtain ⟨S,J,pl,Z⟩:=I.tuple Y
   have z:=J.length
   exact len_tuple pl (by simp only [size_toArray];omega) ⟨.int xs.length,H,I.tok _,⟨_,by simp only [size_toArray];rw [z]⟩,q⟩
 | _=>exact (show False from e).elim
theorem ZdZ:YD X (.builtin "divmod") (fun xs H Q=>∃ i j,xs=[.int i,.int j]/\CDiv i j/\∀ p,H p=none->Q (.ref p) (upd H p (.tup [.int (i / j),.int (i % j)]))):=by
 intro pins s σ H xs us Q I r h
 obtain ⟨i,j,rfl,⟨h1,h2⟩,q⟩:=h
 obtain ⟨u,B,rfl,⟨t,rfl⟩,⟨t',rfl⟩⟩:=VH r
 refine divmod_int (by omega) ?_ (.inl (Sf (by omega)))
 rw [Jn i (by omega),PN i (by omega)]
 have z:H s.heap.objs.size=none:=I.hok.fresh (Qg _)
 refine ⟨.ref s.heap.objs.size,_,?_,rfl,q _ z⟩
 refine I.laid (fun b o e=>Qc _ e) (Qg _) ⟨by simp only [length_cons,Pr];rw [QZ];decide,[.int (i / j) s.toks,.int (i % j) (s.toks+1)],.cons ⟨_,rfl⟩ (.cons ⟨_,rfl⟩ .nil),?_⟩
 exact ⟨_,Qo s.heap rfl,rfl,0,rfl⟩
end
structure ObjM (h:Heap)(x dx C:Addr)(mA:Str->Option Qb):Prop where
 obj:h.get? x=some (Gv C dx)
 ns:h.Ns1 dx mA
 ne:dx≠x
theorem Zhn {h:Heap}{dx:Addr}{mA:Str->Option Qb}(n:h.Ns1 dx mA):∃ G,h.get? dx=some G/\∀ name,PP name G=some (mA name):=by
 obtain ⟨o,es,ep,Y,Z,S,_,J⟩:=n
 refine ⟨o,Y,fun name=>?_⟩
 have e:=J name
 unfold nsFind findBy at e
 rw [<- Array.find?_toList] at e
 unfold PP
 rw [Z]
 dsimp only
 split
 ·rename_i y q
  rw [q] at e
  exact congrArg some e
 ·rename_i q
  rw [q] at e
  have a:es.toList.any (·.refKey)=false:=by
   rw [List.any_eq_false]
   intro y W
   obtain ⟨z,t,B⟩:=S y (Array.mem_toList_iff.mp W)
   simp [DictEntry.refKey,B]
  have I:¬ es.toList.any (·.refKey)=true:=by rw [a];exact Qt
  rw [if_neg I]
  exact congrArg some e
theorem ObjM.look {h:Heap}{x dx C:Addr}{mA:Str->Option Qb}(I:ObjM h x dx C mA):∃ z,PySem.W.InstAt h x (Gv C dx) C (some z)/\∀ name,PP name z=some (mA name) :=
 let ⟨z,ho,hl⟩:=Zhn I.ns
 ⟨z,⟨I.obj,rfl,rfl,ho⟩,hl⟩
section
variable {prog:Qj}{w:Qr}{A:QG}{E:Qb->Qd->Prop}{s:Qd}{K:Qa}{x dx C f:Addr}{mA:Str->Option Qb}{name:Str}{v:Qb}
theorem ZjF {z:Bool}{Q:Qb->Qd->Prop}(X:K.In s.heap)(I:ObjM s.heap x dx C mA)(Y:JU K C name=true)(Z:Tg K C=true)
 (G:QA K (.ref C) name=some none) (hv:mA name=some v) (B:Oz v=true) (h:Q v { s with toks:=s.toks+1 }) :
 Qp (Qs prog w) A (getAttr (.ref x) name z) Q E s:=by
 obtain ⟨od,J,S⟩:=I.look
 exact PySem.W.get_value X J (Py Y).1 (PySem.W.findObj_own Z G rfl (by rw [S,hv])) B h
theorem ZhG {pl:Sem Bool}{Q:Qb×List Qb->Qd->Prop}(X:K.In s.heap)(I:ObjM s.heap x dx C mA)(z:JU K C name=true)
 (S:QA K (.ref C) name=some (some (.ref f))) (Z:Sg K (.ref f)=true) (G:mA name=none) (h:Q (.ref f,[.ref x]) s) :
 Qp (Qs prog w) A (PJ (.ref x) name pl) Q E s:=by
 obtain ⟨Y,J,B⟩:=I.look
 exact PySem.W.method_fn X J (Py z).1 (Py z).2 S (beq_iff_eq.mp Z) (by show (PP name Y).map (·.isSome)=some false;rw [B,G];rfl) h
theorem ZjU {ns:List Str}{Q:Unit->Qd->Prop}(X:K.In s.heap)(I:ObjM s.heap x dx C mA)
 (hs:QA K (.ref C) "__setattr__"=some (some (.builtin "object.__setattr__"))) (hp:RW K C=true) (ht:Ss K C name=some none) (hh:Tg K C=true)
 (hw:RQ mA ns) (hsz:ns.length<=Qh)
 (h:∀ h',ObjM h' x dx C (fun y=>if y=name then some v else mA y)->Sd dx s.heap h'->Q () { s with heap:=h',toks:=s.toks+2 }) :
 Qp (Qs prog w) A (setAttr (.ref x) name v) Q E s:=by
 obtain ⟨od,J,hl⟩:=I.look
 refine PySem.W.set_plain X J hs (PySem.W.osa_open (s:={ s with toks:=s.toks+1 }) (r:=none) X J hp ht fun b=>?_)
 obtain ⟨cd,hc,Z⟩:=PySem.W.any_some hh
 have hx:s.heap.get? x=some ⟨.ref C,some dx,.plain,#[]⟩:=I.obj
 refine Qe (Qu (Qe (Qe (wpAny_loadPart hx (Qe (PySem.W.Looks.here (s:={ s with toks:=s.toks+1 }) (PySem.W.looks_clsIn X hc) ?_))))))
 rw [Z]
 refine Qu (a:=some dx) (Qe (Qu (Qe ?_)))
 refine wpAny_nsSet1 (s:={ s with toks:=s.toks+1 }) I.ns fun h' z B=>?_
 obtain ⟨oD,esD,epD,G,S,Y⟩:=z.count (PySem.Within.cons name v hw)
 refine Qe (OA G (by rw [S];exact OB (Qw Y (by rw [length_cons];omega))) ?_)
 exact Qu (h _ ⟨(B.2 _ (Gg I.ne)).trans I.obj,z,I.ne⟩ B)
theorem Zhp {R:RC->Qd->Prop}{vs:List Qb}{B:List (Str×Qb)}(X:K.In s.heap)(G:Su K C=true)
 (hi:QA K (.ref C) "__init__"=some (some (.ref f))) (I:PySem.W.typeIn K (.ref f)=some (.type "function"))
 (h:JE (Qs prog w) (A.under (.builtin "type.__call__" ⟨.ref C::vs,B⟩)) (.call (.ref f) ⟨.ref (s.heap.objs.size+1)::vs,B⟩) (PySem.W.InitBack (s.heap.objs.size+1) R)
  {s with heap:=(s.heap.push Gi).push (Gv C s.heap.objs.size) }) :
 JE (Qs prog w) A (.call (.ref C) ⟨vs,B⟩) R s:=by
 obtain ⟨J,g,d,t,os⟩:=s
 exact PySem.W.make_core (PySem.W.makes_of X G) (QN X hi) (fun z=>PySem.W.bind_fn X z I) (.inl rfl) h
end
def Xk (f:Str)(v:V):List (Str×V)->List (Str×V)
 | []=>[(f,v)]
 | (g,x)::r=>if g=f then (g,v)::r else (g,x)::Xk f v r
theorem YT (f g:Str)(v:V):∀ fs:List (Str×V),(Xk f v fs).lookup g=if g=f then some v else fs.lookup g
 | []=>by
  show GJ g [(f,v)]=_
  by_cases h:g=f
  ·have z:(g == f)=true:=beq_iff_eq.mpr h
   simp only [GJ,z,if_pos h]
  ·have z:(g == f)=false:=beq_eq_false_iff_ne.mpr h
   simp only [GJ,z,if_neg h]
 | (k, x)::r=>by
  have G:=YT f g v r
  rw [show Xk f v ((k,x)::r)=(if k=f then (k,v)::r else (k,x)::Xk f v r) from rfl]
  by_cases B:k=f
  ·rw [if_pos B]
   by_cases h:g=k
   ·have z:(g == k)=true:=beq_iff_eq.mpr h
    simp only [GJ,z,if_pos (h.trans B)]
   ·have z:(g == k)=false:=beq_eq_false_iff_ne.mpr h
    simp only [GJ,z,if_neg (fun e:g=f=>h (e.trans B.symm))]
  ·rw [if_neg B]
   by_cases h:g=k
   ·have z:(g == k)=true:=beq_iff_eq.mpr h
    simp only [GJ,z,if_neg (fun e:g=f=>B (h.symm.trans e))]
   ·have z:(g == k)=false:=beq_eq_false_iff_ne.mpr h
    simp only [GJ,z]
    exact G
theorem Vy (f:Str)(v:V):∀ fs:List (Str×V),f∈(Xk f v fs).map (·.1)/\∀ g,g∈fs.map (·.1)->g∈(Xk f v fs).map (·.1)
 | []=>⟨by simp [Xk],fun g h=>by simp at h⟩
 | (k, x)::r=>by
  obtain ⟨B,G⟩:=Vy f v r
  rw [show Xk f v ((k,x)::r)=(if k=f then (k,v)::r else (k,x)::Xk f v r) from rfl]
  by_cases z:k=f
  ·rw [if_pos z]
   subst z
   exact ⟨by simp,fun g h=>by simpa using h⟩
  ·rw [if_neg z]
   refine ⟨?_,fun g h=>?_⟩
   ·rw [map_cons]
    exact mem_cons_of_mem _ B
   ·rw [map_cons] at h ⊢
    rcases mem_cons.mp h with e | e
    ·exact mem_cons.mpr (.inl e)
    ·exact mem_cons_of_mem _ (G g e)
theorem VO (f:Str)(v:V):∀ fs:List (Str×V),(Xk f v fs).length<=fs.length+1
 | []=>by simp [Xk]
 | (k,x)::r=>by
  have B:=VO f v r
  rw [show Xk f v ((k,x)::r)=(if k=f then (k,v)::r else (k,x)::Xk f v r) from rfl]
  by_cases z:k=f
  ·rw [if_pos z,length_cons,length_cons];omega
  ·rw [if_neg z,length_cons,length_cons];omega
theorem RelO.some_of {v:V}{o:Option Qb}(r:RelO (some v) o):∃ u,o=some u/\RelV v u:=by
 cases o with
 | none=>exact (show False from r).elim
 | some u=>exact ⟨u,rfl,r⟩
theorem RelO.none_of {o:Option Qb}(r:RelO none o):o=none:=by
 cases o with
 | none=>rfl
 | some u=>exact (show False from r).elim
theorem Zcb {v:V}{u:Qb}(r:RelV v u):Oz u=true:=by
 cases v with
 | non=>cases (show u=QR from r);rfl
 | bl b=>cases (show u=Sa b from r);rfl
 | int i=>obtain ⟨t,e⟩:=(show ∃ t,u=Tx i t from r);cases e;rfl
 | str x=>obtain ⟨t,e⟩:=(show ∃ t,u=PH x t from r);cases e;rfl
 | byt b=>obtain ⟨t,e⟩:=(show ∃ t,u=Value.bytes b t from r);cases e;rfl
 | flt b=>obtain ⟨t,e⟩:=(show ∃ t,u=OR b t from r);cases e;rfl
 | ref a=>cases (show u=Ql a from r);rfl
 | ty n=>cases (show u=Sb n from r);rfl
section
variable {P:Qj}{w:Qr}{H H':Hp}{h h':Heap}{a C dx:Addr}{fs fs':List (Str×V)}
theorem VE (hok:HOk P w H h)(e:H a=some (.ins C dx fs)):∃ mA,ObjM h a dx C mA/\(∀ f,RelO (fs.lookup f) (mA f))/\RQ mA (fs.map (·.1))/\fs.length<=1000/\H dx=some (.own a):=by
 obtain ⟨d,z,ne,B,mA,n,r,q⟩:=(show ObjOk P w H h a (.ins C dx fs) from hok a _ e)
 exact ⟨mA,⟨B,n,ne⟩,r,q,z,d⟩
end
structure Cls (K:Qa)(C:Addr):Prop where
 pg:JU K C Str.empty=true
 hd:Tg K C=true
 po:RW K C=true
 sa:QA K (.ref C) "__setattr__"=some (some (.builtin "object.__setattr__"))
theorem Cls.get {K:Qa}{C:Addr}(c:Cls K C)(f:Str):JU K C f=true:=c.pg
def NoAttr (K:Qa)(C:Addr)(f:Str):Prop:=QA K (.ref C) f=some none
theorem NoAttr.taker {K:Qa}{C:Addr}{f:Str}(n:NoAttr K C f):Ss K C f=some none:=by
 unfold Ss
 rw [show QA K (.ref C) f=some none from n]
 rfl
structure Us (K:Qa)(C:Addr)(m:Str)(f:Addr):Prop where
 at_:QA K (.ref C) m=some (some (.ref f))
 fn:Sg K (.ref f)=true
 kp:Gs K (.ref f)=true
section
variable {X:Cx}{pins:List (Addr×Obj)}{σ:St}{H:Hp}{s:Qd}{a C dx:Addr}{fs:List (Str×V)}{f:Str}{v:V}{A:QG}{E:Qb->Qd->Prop}
theorem ZfJ {b:Bool}{Q:Qb->Qd->Prop}(I:Inv X pins σ H s)(e:H a=some (.ins C dx fs))(c:Cls X.K C)(n:NoAttr X.K C f)(l:fs.lookup f=some v)
 (h:∀ u s',Inv X pins σ H s'->RelV v u->Q u s'):Qp (Qs X.prog X.w) A (getAttr (.ref a) f b) Q E s:=by
 obtain ⟨mA,O,r,_,_,_⟩:=VE I.hok e
 obtain ⟨u,B,z⟩:=RelO.some_of (v:=v) (o:=mA f) (by rw [<- l];exact r f)
 exact ZjF I.kIn O (c.get f) c.hd n B (Zcb z) (h u _ (I.tok _) z)
theorem UR {m:Str}{g:Addr}{pl:Sem Bool}{Q:Qb×List Qb->Qd->Prop}(I:Inv X pins σ H s)(e:H a=some (.ins C dx fs))(c:Cls X.K C)(k:Us X.K C m g)(l:fs.lookup m=none)
 (h:Q (.ref g,[.ref a]) s):Qp (Qs X.prog X.w) A (PJ (.ref a) m pl) Q E s:=by
 obtain ⟨mA,O,r,_,_,_⟩:=VE I.hok e
 have z:mA m=none:=RelO.none_of (by rw [<- l];exact r m)
 exact ZhG I.kIn O (c.get m) k.at_ k.fn z h
theorem Zfz {y:V}{u:Qb}{Q:Unit->Qd->Prop}(I:Inv X pins σ H s)(e:H a=some (.ins C dx fs))(c:Cls X.K C)(n:NoAttr X.K C f)(hl:fs.length < 1000)(S:RelV y u)
 (h:∀ s',Inv X pins σ (upd H a (.ins C dx (Xk f y fs))) s'->Q () s'):Qp (Qs X.prog X.w) A (setAttr (.ref a) f u) Q E s:=by
 obtain ⟨mA,O,r,wi,_,G⟩:=VE I.hok e
 have J:(fs.map (·.1)).length<=sizeLine:=by rw [length_map,QZ];omega
 refine ZjU I.kIn O c.sa c.po n.taker c.hd wi J fun h' B W=>h _ ?_
 have hd:∃ o,h'.get? dx=some o:=let ⟨o,_,_,e',_⟩:=B.ns;⟨o,e'⟩
 refine I.write (x:=a) (e:=dx) (by rw [e];exact Gn) (.inr G) (fun b q Y z=>(W.2 b Y).trans z) hd ?_
 refine ⟨by rw [Zi O.ne];exact G,?_,O.ne,B.obj,_,B.ns,fun g=>?_,fun g Z=>?_⟩
 ·have:=VO f y fs;omega
 ·show RelO ((Xk f y fs).lookup g) (if g=f then some u else mA g)
  rw [YT]
  by_cases q:g=f
  ·rw [if_pos q,if_pos q];exact S
  ·rw [if_neg q,if_neg q];exact r g
 ·by_cases q:g=f
  ·rw [q];exact (Vy f y fs).1
  ·refine (Vy f y fs).2 g (wi g fun z=>Z ?_)
   show (if g=f then some u else mA g)=none
   rw [if_neg q];exact z
theorem Inv.made (I:Inv X pins σ H s):Inv X pins σ (upd (upd H s.heap.objs.size (.own (s.heap.objs.size+1))) (s.heap.objs.size+1) (.ins C s.heap.objs.size []))
 {s with heap:=(s.heap.push Gi).push (Gv C s.heap.objs.size) }:=by
 have e1:(s.heap.push Gi).get? s.heap.objs.size=some PySem.W.emptyDict:=Qo s.heap rfl
 have S:((s.heap.push Gi).push (Gv C s.heap.objs.size)).get? (s.heap.objs.size+1)=some (Gv C s.heap.objs.size):=by
  have:=Qo (s.heap.push Gi) (o:=Gv C s.heap.objs.size) rfl
  rwa [Jo] at this
 have B:(s.heap.push Gi).Ns s.heap.objs.size (fun _=>none):=⟨Gi,#[],_,e1,rfl,(fun e J=>absurd J (by simp)),fun _=>rfl⟩
 have z:=I.laid (a:=s.heap.objs.size) (o:=.own (s.heap.objs.size+1)) (h':=s.heap.push Gi) (t':=s.toks) (fun b u q=>Qc _ q) (Qg _) ⟨_,e1⟩
 refine z.laid (a:=s.heap.objs.size+1) (o:=.ins C s.heap.objs.size []) (t':=s.toks) (fun b u q=>Qc _ q) (Jq (Jo _ _)) ?_
 have ne:s.heap.objs.size≠s.heap.objs.size+1:=Qq (TJ _)
 refine ⟨by rw [Zi ne,Zh],QF _,ne,S,fun _=>none,(RX B).at fun o q=>Qc _ q,fun _=>Gn,fun y G=>absurd rfl G⟩
theorem ZeO {prog:Qj}{w:Qr}{env:Env}{e:Expr}{f:Str}{pos:Pos}{s:Qd}{Q:Qb->Qd->Prop}(B:Jv e f env (eval e env)=eval e env)
 (h:Qp (Qs prog w) A (eval e env) (fun o z=>Qp (Qs prog w) A (getAttr o f true) Q E z) E s):Qp (Qs prog w) A (eval (.Attribute e f pos) env) Q E s :=
 Attribute_any_ h (by rw [arm_eval_Attribute,B])
end
def tFld (K:Qa)(ta:TE)(f:Str):TE:=fun σ H Q=>ta σ H fun x H1=>∃ a C dx fs v,x=.ref a/\H1 a=some (.ins C dx fs)/\Cls K C/\NoAttr K C f/\fs.lookup f=some v/\Q v H1
def sFld (K:Qa)(ta tv:TE)(f:Str):TS:=fun D σ H=>tv σ H fun y H1=>ta σ H1 fun x H2=>∃ a C dx fs,x=.ref a/\H2 a=some (.ins C dx fs)/\Cls K C/\NoAttr K C f/\fs.length < 1000 /\
 D.nx σ (upd H2 a (.ins C dx (Xk f y fs)))
section
variable {X:Cx}{o e value:Expr}{f:Str}{pos pos' tpos:Pos}{ta tv:TE}
theorem ZC (W:PE X e ta)(G:Jv e f X.env (eval e X.env)=eval e X.env):PE X (.Attribute e f pos) (tFld X.K ta f):=by
 intro pins s σ H Q I h
 refine ZeO G (Zu (W pins s σ H _ I h) fun u s1 ⟨x,H1,S,B,a,C,dx,fs,v,ex,ea,c,n,l,q⟩=>?_)
 subst ex
 obtain rfl:u=Ql a:=B
 exact ZfJ S ea c n l fun Y s2 z J=>⟨v,H1,z,J,q⟩
theorem Ub (S:PE X o ta)(Z:PE X value tv)(B:JA value (some (.Attribute o f pos')) pos.line X.env=pure false):PS X (.Assign [.Attribute o f pos'] value pos) (sFld X.K ta tv f):=by
 intro pins s σ H D I h
 refine JQ (Zu (Z pins s σ H _ I h) fun u s1 ⟨y,H1,I1,W,q⟩=>Zu (S pins s1 σ H1 _ I1 q) fun z s2 ⟨x,H2,G,J,a,C,dx,fs,ex,ea,c,n,l,q2⟩=>?_) B
 subst ex
 obtain rfl:z=Ql a:=J
 exact Zfz G ea c n l W fun s3 Y=>⟨σ,_,Y,q2⟩
end
section
variable {X:Cx}{pins:List (Addr×Obj)}{σ:St}{H:Hp}{s:Qd}{A:QG}{E:Qb->Qd->Prop}{Q:Qb->Qd->Prop}{c:Qb}{b:Bool}
inductive XV (K:Qa)(H:Hp):V->Qb->Prop where
 | non:XV K H .non (.type "NoneType")
 | bl (x:Bool):XV K H (.bl x) (.type "bool")
 | int (i:Int):XV K H (.int i) (.type "int")
 | str (x:Str):XV K H (.str x) (.type "str")
 | flt (x:UInt64):XV K H (.flt x) (.type "float")
 | lst {a:Addr} {xs:List V} (e:H a=some (.lst xs)):XV K H (.ref a) (.type "list")
 | frz {a:Addr} {o:Obj} {xs:List V} (e:H a=some (.frz o (.lst xs))):XV K H (.ref a) (.type "list")
 | tup {a:Addr} {xs:List V} (e:H a=some (.tup xs)):XV K H (.ref a) (.type "tuple")
 | dK {a:Addr} {kvs:List (Zn×V)} (e:H a=some (.dK kvs)):XV K H (.ref a) (.type "dict")
 | dT {a:Addr} {kvs:List (List Zn×V)} (e:H a=some (.dT kvs)):XV K H (.ref a) (.type "dict")
 | ins {a C dx:Addr} {fs:List (Str×V)} (e:H a=some (.ins C dx fs)) (cl:Cls K C) (ha:QA K (.ref C) "__class__"=some (some (.builtin "object.__class__")))
     (hn:PySem.W.specialIn K (.builtin "object.__class__") "__get__"=some (some (.builtin "getset_descriptor.__get__"))) (htk:PySem.W.takesIn K (.builtin "object.__class__")=some true)
     (hm:PySem.W.mroIn K C (.type "object")=some true):XV K H (.ref a) (.ref C)
theorem ZbU {x:V}{u t:Qb}(I:Inv X pins σ H s)(B:RelV x u)(ty:XV X.K H x t)(e:JF X.K t c=some b)(h:∀ tk,Q (.bool b) { s with toks:=tk }) :
 Qp (Qs X.prog X.w) A (call (.builtin "isinstance") [u,c]) Q E s:=by
 cases ty with
 | non=>cases (show u=QR from B);exact QQ PySem.W.kitx_none I.kIn Gn e (fun z=>nomatch z) h
 | bl y=>cases (show u=Sa y from B);exact QQ PySem.W.kitx_bool I.kIn Gn e (fun z=>nomatch z) h
 | int i=>obtain ⟨t,q⟩:=(show ∃ t,u=Tx i t from B);cases q;exact QQ PySem.W.kitx_int I.kIn Gn e (fun z=>nomatch z) h
 | str y=>obtain ⟨t,q⟩:=(show ∃ t,u=PH y t from B);cases q;exact QQ PySem.W.kitx_str I.kIn Gn e (fun z=>nomatch z) h
 | flt y=>obtain ⟨t,q⟩:=(show ∃ t,u=OR y t from B);cases q;exact QQ PySem.W.kitx_float I.kIn Gn e (fun z=>nomatch z) h
 | @lst a xs ea =>
  cases (show u=Ql a from B)
  obtain ⟨_,_,n,_,h1⟩:=(show ObjOk X.prog X.w H s.heap a (.lst xs) from I.hok a _ ea)
  exact QQ RY I.kIn ⟨_,h1,rfl⟩ e (fun z=>nomatch z) h
 | @frz a ob xs ea =>
  cases (show u=Ql a from B)
  obtain ⟨_,_,_,n,_,h1⟩:=(show ObjOk X.prog X.w H s.heap a (.frz ob (.lst xs)) from I.hok a _ ea)
  exact QQ RY I.kIn ⟨_,h1,rfl⟩ e (fun z=>nomatch z) h
 | @tup a xs ea =>
  cases (show u=Ql a from B)
  obtain ⟨_,_,_,p⟩:=(show ObjOk X.prog X.w H s.heap a (.tup xs) from I.hok a _ ea)
  obtain ⟨o,h1,h2,_⟩:=p
  exact QQ PySem.W.kitx_tuple I.kIn ⟨o,h1,h2⟩ e (fun z=>nomatch z) h
 | @dK a kvs ea =>
  cases (show u=Ql a from B)
  obtain ⟨_,_,vs,_,p⟩:=(show ObjOk X.prog X.w H s.heap a (.dK kvs) from I.hok a _ ea)
  obtain ⟨o,es,ep,h1,h2,_⟩:=p
  exact QQ RZ I.kIn ⟨o,h1,h2.1⟩ e (fun z=>nomatch z) h
 | @dT a kvs ea =>
  cases (show u=Ql a from B)
  obtain ⟨_,_,xs,_,o,es,ep,h1,h2,_⟩:=(show ObjOk X.prog X.w H s.heap a (.dT kvs) from I.hok a _ ea)
  exact QQ RZ I.kIn ⟨o,h1,h2.1⟩ e (fun z=>nomatch z) h
 | @ins a C dx fs ea cl ha hn htk hm =>
  cases (show u=Ql a from B)
  obtain ⟨mA,O,_⟩:=VE I.hok ea
  obtain ⟨G,J,_⟩:=O.look
  exact QQ (PySem.W.kitx_own (cl.get _) cl.hd ha hn htk hm) I.kIn J e (fun z=>nomatch z) h
end
structure Room (k:Nat)(A:QG):Prop where
 hd:A.handled=none
 dp:A.depth+3 * k+5 < SM
 un:A.units+16 * k+200 < cLine
 gd:A.guards=some []
theorem Room.mono {j k:Nat}{A:QG}(r:Room k A)(h:j<=k):Room j A:=⟨r.hd,by have:=r.dp;omega,by have:=r.un;omega,r.gd⟩
theorem Room.deeper {k:Nat}{A:QG}(r:Room (k+1) A)(env:Env):Room k (A.deeper env) :=
 ⟨r.hd,by have:=r.dp;show A.depth+1+3 * k+5 < _;omega,by have:=r.un;show A.units+3+16 * k+200 < _;omega,r.gd⟩
theorem Zfv {A:QG}{C:Addr}{us:List Qb}{z:List (Str×Qb)}:(A.under (.builtin "type.__call__" ⟨.ref C::us,z⟩)).depth=A.depth+1:=by
 first | rfl | simp [Sh,Code.weight,Code.isCreation,Code.isGuard,Code.isCaller,Code.frames,Oa,guardIds]
theorem Zfa {A:QG}{C:Addr}{us:List Qb}{z:List (Str×Qb)}:(A.under (.builtin "type.__call__" ⟨.ref C::us,z⟩)).units=A.units+1:=by
 first | rfl | simp [Sh,Code.cUnits,Code.frames,Oa]
theorem Room.make {k:Nat}{A:QG}(r:Room (k+1) A)(C:Addr)(us:List Qb)(z:List (Str×Qb)):Room k (A.under (.builtin "type.__call__" ⟨.ref C::us,z⟩)) :=
 ⟨r.hd,by have:=r.dp;rw [Zfv];omega,by have:=r.un;rw [Zfa];omega,by first | exact r.gd | simpa [Sh,Code.isGuard,guardIds] using r.gd⟩
theorem Room.depth {k:Nat}{A:QG}(r:Room k A):A.depth < recursionLimit:=by have:=r.dp;omega
theorem Room.units {k:Nat}{A:QG}(r:Room k A):A.units+64 < cLine:=by have:=r.un;omega
def Wr:TA:=fun _ H Q=>Q [] H
def Xu (ta:TE)(tr:TA):TA:=fun σ H Q=>ta σ H fun x H1=>tr σ H1 fun xs H2=>Q (x::xs) H2
section
variable {X:Cx}{e:Expr}{es:List Expr}{te:TE}{t:TA}{pos:Pos}
theorem Za:PA X [] Wr:=fun _ _ _ _ H Q I h=>Ob ⟨[],H,I,.nil,h⟩
theorem Yu (G:PE X e te)(J:PA X es t)(z:Qz (e::es) X.env=(false,eval e X.env)::Qz es X.env:=by rfl):PA X (e::es) (Xu te t):=by
 intro pos pins s σ H Q I h
 rw [z]
 show Qp _ _ (spliced ((false,eval e X.env)::GP pos (Qz es X.env))) _ _ s
 refine RD (Zu (G pins s σ H _ I h) fun u s1 ⟨x,H1,W,Y,S⟩=>?_)
 exact Zu (J pos pins s1 σ H1 _ W S) fun us s2 ⟨xs,H2,B,Z,q2⟩=>⟨x::xs,H2,B,.cons Y Z,q2⟩
def tTup (t:TA):TE:=fun σ H Q=>t σ H fun xs H1=>xs.length<=Qh/\∀ p,H1 p=none->Q (.ref p) (upd H1 p (.tup xs))
def tLst (t:TA):TE:=fun σ H Q=>t σ H fun xs H1=>xs.length<=Qh/\∀ p,H1 p=none->Q (.ref p) (upd H1 p (.lst xs))
theorem Yw {x1}(h:PA X es t):PE X (.Tuple es x1 pos) (tTup t):=by
 intro pins s σ H Q I J
 refine Rg (Zu (h pos pins s σ H _ I J) fun us s1 ⟨xs,H1,B,r,z,q⟩=>⟨by rw [<- r.length];exact z,?_⟩)
 have G:H1 s1.heap.objs.size=none:=B.hok.fresh (Qg _)
 refine ⟨.ref s1.heap.objs.size,upd H1 s1.heap.objs.size (.tup xs),B.laid (t':=s1.toks) (fun b u e=>Qc _ e) (Qg _) ?_,rfl,q _ G⟩
 exact ⟨z,us,r,⟨_,Qo _ rfl,rfl,_,rfl⟩⟩
theorem Yg (h:PA X es t):PE X (.List es pos) (tLst t):=by
 intro pins s σ H Q I J
 refine wpAny_List_spliced (Zu (h pos pins s σ H _ I J) fun us s1 ⟨xs,H1,B,r,z,q⟩=>⟨by rw [<- r.length];exact z,?_⟩)
 have G:H1 s1.heap.objs.size=none:=B.hok.fresh (Qg _)
 refine ⟨.ref s1.heap.objs.size,upd H1 s1.heap.objs.size (.lst xs),B.laid (t':=s1.toks) (fun b u e=>Qc _ e) (Qg _) ?_,rfl,q _ G⟩
 exact ⟨z,us,0,r,Qo _ rfl⟩
end
abbrev Sp:=List V->Hp->VK->XK->Prop
abbrev Ur:=List Env->Hp->Qd->XK->Qb->Qd->Prop
structure Env0 (P:Qj)(w:Qr)(K:Qa)(mg:Str->Option Qb)(base:Heap)(A:QG)(outer:List Env)(s:Qd)(H:Hp):Prop where
 frames:A.frames=some outer
 mod:Mod K mg base
 bs:∀ b o,base.get? b=some o->s.heap.get? b=some o/\H b=none
 bsz:base.objs.size<=s.heap.objs.size
 funs:s.heap.FunFrames base outer
 frf:∀ b∈Xi outer,H b=none
 hok:HOk P w H s.heap
 bare:PB s.gens
def CE (outer:List Env)(P:Qj)(w:Qr)(H:Hp)(s:Qd)(Q:VK)(u:Qb)(s':Qd):Prop :=
 ∃ v H',s'.os=s.os/\PB s'.gens/\Un (Xi outer) [] H H' s.heap s'.heap/\HOk P w H' s'.heap/\RelV v u/\Q v H'
def CR (CX:Ur)(outer:List Env)(P:Qj)(w:Qr)(H:Hp)(s:Qd)(Q:VK)(E:XK)(r:RC)(s':Qd):Prop :=
 match r with
 | .ok (.ret u)=>CE outer P w H s Q u s'
 | .ok _=>False
 | .error e=>CX outer H s E e s'
structure FnOk (P:Qj)(w:Qr)(K:Qa)(mg:Str->Option Qb)(base:Heap)(CX:Ur)(k:Nat)(f:Addr)(fd:Qi)(ps:List Str)(sp:Sp):Prop where
 len:∀ vs H Q E,sp vs H Q E->vs.length=ps.length
 run:∀ (A:QG) (outer:List Env) (s:Qd) (H:Hp) (args:Args) (us:List Qb) (vs:List V) (Q:VK) (E:XK),Room k A->Env0 P w K mg base A outer s H->SZ s fd args (ps.zip us)->Vals vs us->sp vs H Q E ->
  JE (Qs P w) A (.call (.ref f) args) (CR CX outer P w H s Q E) s
theorem FnOk.mono {P:Qj}{w:Qr}{K:Qa}{mg:Str->Option Qb}{base:Heap}{CX:Ur}{j k:Nat}{f:Addr}{fd:Qi}{ps:List Str}{sp:Sp}(F:FnOk P w K mg base CX j f fd ps sp)(h:j<=k) :
 FnOk P w K mg base CX k f fd ps sp:=⟨F.len,fun A outer s H args us vs Q E z=>F.run A outer s H args us vs Q E (z.mono h)⟩
theorem Env0.make {P:Qj}{w:Qr}{K:Qa}{mg:Str->Option Qb}{base:Heap}{A:QG}{outer:List Env}{s:Qd}{H:Hp}(e:Env0 P w K mg base A outer s H)(C:Addr)(us:List Qb)(z:List (Str×Qb)) :
 Env0 P w K mg base (A.under (.builtin "type.__call__" ⟨.ref C::us,z⟩)) outer s H:=⟨by first | exact e.frames | (simpa [Sh,Code.envs,Oa,pushEnvs] using e.frames),e.mod,e.bs,e.bsz,e.funs,e.frf,e.hok,e.bare⟩
section
variable {X:Cx}{pins:List (Addr×Obj)}{σ:St}{H:Hp}{s s':Qd}
theorem Inv.env0 (I:Inv X pins σ H s):Env0 X.prog X.w X.K X.mg X.base X.A X.stack s H :=
 ⟨I.ok.frames,I.ok.mod,I.bs,Qw I.ok.bsz I.sz,I.stack,I.stkFree,I.hok,I.bare⟩
theorem Inv.after {Q:VK}{u:Qb}(I:Inv X pins σ H s)(h:CE X.stack X.prog X.w H s Q u s'):EP X pins σ Q u s':=by
 obtain ⟨v,H',os,B,un,hok,r,q⟩:=h
 obtain ⟨J,g,d,t,G⟩:=s'
 obtain rfl:G=s.os:=os
 exact ⟨v,H',I.call (h':=J) (g':=g) (d':=d) (t':=t) (ch:=[]) un hok B (fun b z=>absurd z (by simp)),r,q⟩
end
def ZfA (sp:Sp)(dvs:List V)(E:XK)(t:TA):TE:=fun σ H Q=>t σ H fun vs H1=>sp (vs++dvs) H1 Q E
def Zcr (C:Addr)(m:Str)(sp:Sp)(dvs:List V)(E:XK)(ta:TE)(t:TA):TE:=fun σ H Q=>ta σ H fun x H1=>∃ a dx fs,x=.ref a/\H1 a=some (.ins C dx fs)/\fs.lookup m=none /\
 t σ H1 fun vs H2=>sp (x::(vs++dvs)) H2 Q E
def Zjm (C:Addr)(sp:Sp)(dvs:List V)(E:XK)(t:TA):TE:=fun σ H Q=>t σ H fun vs H1=>∀ x dx,H1 x=none->H1 dx=none->dx≠x ->
 sp (.ref x::(vs++dvs)) (upd (upd H1 dx (.own x)) x (.ins C dx [])) (fun v H2=>v=.non/\Q (.ref x) H2) E
def Binds (K:Qa)(fd:Qi)(ps:List Str)(ds:List Qb):Prop :=
 ∀ (s:Qd) (us:List Qb),K.In s.heap->(us++ds).length=ps.length->SZ s fd ⟨us,[]⟩ (ps.zip (us++ds))
theorem Binds.all {K:Qa}{fd:Qi}{ps:List Str}(h:∀ us:List Qb,us.length=ps.length->bindArgs fd ⟨us,[]⟩=pure (ps.zip us)):Binds K fd ps []:=fun s us _ z=>by
 rw [Ps] at z ⊢
 exact .of_eq (h us z)
def WS (CX:Ur)(X:Cx)(E:XK):Prop:=∀(pins:List (Addr×Obj))(σ:St)(H:Hp)(s:Qd)(e:Qb)(s':Qd),Inv X pins σ H s->CX X.stack H s E e s'->X.xe e s'
section
variable {X:Cx}{CX:Ur}{k:Nat}{f C:Addr}{fd:Qi}{ps:List Str}{sp:Sp}{dvs:List V}{ds:List Qb}{E:XK}{x m:Str}{p pos apos:Pos}{e o:Expr}{es:List Expr}{ta:TE}{t:TA}
theorem Zdz {pins:List (Addr×Obj)}{σ:St}{H:Hp}{s:Qd}{Q:VK}{us:List Qb}{vs:List V}(F:FnOk X.prog X.w X.K X.mg X.base CX k f fd ps sp)(G:Room k X.A)(S:Binds X.K fd ps ds)(W:Vals dvs ds)(Y:WS CX X E)
 (I:Inv X pins σ H s) (r:Vals vs us) (h:sp (vs++dvs) H Q E):Qp (Qs X.prog X.w) X.A (call (.ref f) us) (EP X pins σ Q) X.xe s:=by
 have B:Vals (vs++dvs) (us++ds):=r.append W
 have J:(us++ds).length=ps.length:=by rw [<- B.length];exact F.len _ _ _ _ h
 refine JV (GK (F.run X.A X.stack s H ⟨us,[]⟩ (us++ds) (vs++dvs) Q E G I.env0 (S s us I.kIn J) B h) fun r s' z=>?_)
 cases r with
 | error e=>exact Y pins σ H s e s' I z
 | ok fl =>
  cases fl with
  | ret u=>exact I.after z
  | next=>exact QS z
  | brk=>exact QS z
  | cont=>exact QS z
theorem ZkL (F:FnOk X.prog X.w X.K X.mg X.base CX k f fd ps sp)(J:Room k X.A)(Y:Gl X x)(Z:X.mg x=some (.ref f))(hk:Gs X.K (.ref f)=true)(W:Binds X.K fd ps ds)(hd:Vals dvs ds)(hx:WS CX X E)
 (S:PA X (e::es) t) (B:(x == ("__debug__":Str))=false:=by decide) (he:Qz (e::es) X.env=(false,eval e X.env)::Qz es X.env:=by rfl) (z:(GP pos (Qz es X.env)).any (·.1)=false:=by rfl) :
 PE X (.Call (.Name x p) (e::es) [] pos) (ZfA sp dvs E t):=by
 intro pins s σ H Q I h
 refine QP (WM I Y Z ?_ B)
 refine Ja (h₀:=X.base) I.ok.mod.kin hk (Zu (S pos pins s σ H _ I h) fun us s1 ⟨vs,H1,G,r,q⟩=>⟨G.kIn,?_⟩) he z
 exact Zdz F J W hd hx G r q
theorem ZjN {pl:Sem Bool}(he:PE X o ta)(c:Cls X.K C)(S:Us X.K C m f)(F:FnOk X.prog X.w X.K X.mg X.base CX k f fd ps sp)(hr:Room k X.A)(hb:Binds X.K fd ps ds)(hd:Vals dvs ds)(hx:WS CX X E)(Z:PA X (e::es) t)
 (B:Qz (e::es) X.env=(false,eval e X.env)::Qz es X.env:=by rfl) (z:(GP pos (Qz es X.env)).any (·.1)=false:=by rfl)
 (ht:eval (.Call (.Attribute o m apos) (e::es) [] pos) X.env=(do
  let G <- eval o X.env
  Te apos.atName
  let (f,first) <- JB [G] (PJ G m pl)
  TK pos f first (GP pos (Qz (e::es) X.env)) (Pf pos (GX [] X.env))):=by rfl) :
 PE X (.Call (.Attribute o m apos) (e::es) [] pos) (Zcr C m sp dvs E ta t):=by
 intro pins s σ H Q I h
 refine JR (pl:=pl) (Zu (he pins s σ H _ I h) fun u s1 ⟨x,H1,W,Y,a,dx,fs,ex,ea,l,q⟩=>?_) ht
 subst ex
 obtain rfl:u=Ql a:=Y
 refine UR W ea c S l ?_
 refine Ja (first:=[.ref a]) (h₀:=X.base) I.ok.mod.kin S.kp (Zu (Z pos pins s1 σ H1 _ W q) fun us s2 ⟨vs,H2,J,r,q2⟩=>⟨J.kIn,?_⟩) B z
 exact Zdz (us:=.ref a::us) (vs:=.ref a::vs) F hr hb hd hx J (.cons rfl r) q2
theorem Ziw {pl:Sem Bool}(he:PE X o ta)(c:Cls X.K C)(G:Us X.K C m f)(F:FnOk X.prog X.w X.K X.mg X.base CX k f fd ps sp)(J:Room k X.A)(W:Binds X.K fd ps ds)(Z:Vals dvs ds)(hx:WS CX X E)
 (Y:eval (.Call (.Attribute o m apos) [] [] pos) X.env=(do
  let B <- eval o X.env
  Te apos.atName
  let (f,first) <- JB [B] (PJ B m pl)
  TK pos f first (GP pos (Qz [] X.env)) (Pf pos (GX [] X.env))):=by rfl) :
 PE X (.Call (.Attribute o m apos) [] [] pos) (Zcr C m sp dvs E ta Wr):=by
 intro pins s σ H Q I h
 refine JR (pl:=pl) (Zu (he pins s σ H _ I h) fun u s1 ⟨x,H1,z,S,a,dx,fs,ex,ea,l,q⟩=>?_) Y
 subst ex
 obtain rfl:u=Ql a:=S
 refine UR z ea c G l ?_
 exact Rh (first:=[.ref a]) z.kIn G.kp (Zdz (us:=[.ref a]) (vs:=[.ref a]) F J W Z hx z (.cons rfl .nil) q)
structure Mk (K:Qa)(C f:Addr):Prop where
 makes:Su K C=true
 init:QA K (.ref C) "__init__"=some (some (.ref f))
 fn:Sg K (.ref f)=true
 kp:Gs K (.ref C)=true
theorem Zie {pins:List (Addr×Obj)}{σ:St}{H:Hp}{s:Qd}{Q:VK}{us:List Qb}{vs:List V}(M:Mk X.K C f)(F:FnOk X.prog X.w X.K X.mg X.base CX k f fd ps sp)(Y:Room (k+1) X.A)(hb:Binds X.K fd ps ds)(hd:Vals dvs ds)
 (hx:WS CX X E) (I:Inv X pins σ H s) (r:Vals vs us)
 (h:∀ x dx,H x=none->H dx=none->dx≠x->sp (.ref x::(vs++dvs)) (upd (upd H dx (.own x)) x (.ins C dx [])) (fun v H2=>v=.non/\Q (.ref x) H2) E) :
 Qp (Qs X.prog X.w) X.A (call (.ref C) us) (EP X pins σ Q) X.xe s:=by
 have G:=h (s.heap.objs.size+1) s.heap.objs.size (I.hok.fresh (GA _)) (I.hok.fresh (Qg _)) (Qq (TJ _))
 have B:=Inv.made (C:=C) I
 have J:Vals (V.ref (s.heap.objs.size+1)::(vs++dvs)) (Ql (s.heap.objs.size+1)::(us++ds)):=.cons rfl (r.append hd)
 have Z:(Ql (s.heap.objs.size+1)::us++ds).length=ps.length:=by
  have e:=J.length
  rw [F.len _ _ _ _ G] at e
  exact e.symm
 refine JV (Zhp (f:=f) I.kIn M.makes M.init (beq_iff_eq.mp M.fn) (GK (F.run _ X.stack _ _ ⟨Ql (s.heap.objs.size+1)::us,[]⟩ (Ql (s.heap.objs.size+1)::(us++ds)) _ _ E (Y.make C us [])
  (B.env0.make C us []) (hb _ (Ql (s.heap.objs.size+1)::us) B.kIn Z) J G) fun r s' z=>?_))
 cases r with
 | error e=>exact hx pins σ _ _ e s' B z
 | ok fl =>
  cases fl with
  | ret u =>
   obtain ⟨v,H',I3,W,S,q3⟩:=B.after z
   subst S
   exact ⟨W,⟨V.ref (s.heap.objs.size+1),H',I3,rfl,q3⟩⟩
  | next=>exact QS z
  | brk=>exact QS z
  | cont=>exact QS z
theorem ZhL (M:Mk X.K C f)(F:FnOk X.prog X.w X.K X.mg X.base CX k f fd ps sp)(B:Room (k+1) X.A)(G:Gl X x)(S:X.mg x=some (.ref C))(J:Binds X.K fd ps ds)(W:Vals dvs ds)(Y:WS CX X E)
 (z:(x == ("__debug__":Str))=false:=by decide):PE X (.Call (.Name x p) [] [] pos) (Zjm C sp dvs E Wr):=by
 intro pins s σ H Q I h
 refine QP (WM I G S ?_ z)
 exact Rh I.kIn M.kp (Zie (us:=[]) M F B J W Y I .nil h)
end
def PK (X:Cx)(kws:List Oc)(t:TA):Prop :=
 ∀ (pos:Pos) (pins:List (Addr×Obj)) (s:Qd) (σ:St) (H:Hp) (Q:List V->Hp->Prop),Inv X pins σ H s->t σ H Q->Qp (Qs X.prog X.w) X.A (evalAll ((Pf pos (GX kws X.env)).map (·.2))) (AP X pins σ Q) X.xe s
section
variable {X:Cx}{CX:Ur}{k:Nat}{f C:Addr}{fd:Qi}{ps ks:List Str}{sp:Sp}{E:XK}{x m:Str}{p pos apos kpos:Pos}{e o:Expr}{es:List Expr}{kws:List Oc}{te ta:TE}{t tk:TA}{nm:Option Str}
theorem Zmr:PK X [] Wr:=fun _ _ _ _ H Q I h=>Od ⟨[],H,I,.nil,h⟩
theorem Zkt (B:PE X e te)(G:PK X kws t):PK X (⟨nm,e,kpos⟩::kws) (Xu te t):=by
 intro pos pins s σ H Q I h
 show Qp _ _ (evalAll ((do let v <- eval e X.env;Te pos;pure v)::(Pf pos (GX kws X.env)).map (·.2))) _ _ s
 refine wpAny_evalAll_cons (Qe (Zu (B pins s σ H _ I h) fun u s1 ⟨x,H1,W,Y,J⟩=>Qe (Gr (Qu ?_))))
 exact Zu (G pos pins s1 σ H1 _ W J) fun us s2 ⟨xs,H2,z,S,Z⟩=>⟨x::xs,H2,z,.cons Y S,Z⟩
variable {g:List Qb->List Qb->List Qb}{gV:List V->List V->List V}
end
structure Zo (N P:List Str)(sc:Scope):Prop where
 kind:sc.kind=.function
 co:sc.isCoroutine=false
 gen:sc.isGenerator=false
 nd:N.Nodup
 pre:N.take P.length=P
 par:∀ x∈P,sc.names.lookup x=some .local\/sc.names.lookup x=some .cell
 nofree:∀ y∈sc.names,y.2≠.free
theorem ZbK {kindOf:Str->Option Pg}{x:Str}:∀{binds:List (Str×Qb)}{m:Str->Option Qb},(∀ v,(x,v) ∉ binds)->OT kindOf binds m x=m x
 | [],_,_=>rfl
 | (n,v)::r,m,h=>by
  unfold OT
  rw [ZbK fun w z=>h w (mem_cons_of_mem _ z)]
  split
  ·have:x≠n:=by rintro rfl;exact h v mem_cons_self
   simp [this]
  ·rfl
theorem ZbO {kindOf:Str->Option Pg}{x:Str}:∀{binds:List (Str×Qb)}{m:Str->Option Qb},(∀ v,(x,v) ∉ binds)->bindC kindOf binds m x=m x
 | [],_,_=>rfl
 | (n,v)::r,m,h=>by
  unfold bindC
  rw [ZbO fun w z=>h w (mem_cons_of_mem _ z)]
  split
  ·rfl
  ·have:x≠n:=by rintro rfl;exact h v mem_cons_self
   simp [this]
theorem ZbW {kindOf:Str->Option Pg}{x:Str}{v:Qb}:∀{P:List Str}{vs:List Qb}{i:Nat}{m:Str->Option Qb},P.Nodup->P[i]?=some x->vs[i]?=some v->kindOf x=some .local ->
 OT kindOf (P.zip vs) m x=some v
 | [],_,_,_,_,h,_,_=>by simp at h
 | _::_,[],_,_,_,_,h,_=>by simp at h
 | p::P,w::vs,0,m,nd,h1,h2,hk=>by
  simp at h1 h2;subst h1;subst h2
  show OT kindOf ((p,w)::P.zip vs) m p=_
  unfold OT
  rw [ZbK fun v z=>(nodup_cons.mp nd).1 (of_mem_zip z).1,if_pos hk]
  simp
 | p::P,w::vs,i+1,m,nd,h1,h2,hk=>by
  show OT kindOf ((p,w)::P.zip vs) m x=_
  unfold OT
  exact ZbW (i:=i) (nodup_cons.mp nd).2 (by simpa using h1) (by simpa using h2) hk
theorem ZbS {kindOf:Str->Option Pg}{x:Str}{v:Qb}:∀{P:List Str}{vs:List Qb}{i:Nat}{m:Str->Option Qb},P.Nodup->P[i]?=some x->vs[i]?=some v->kindOf x≠some .local ->
 bindC kindOf (P.zip vs) m x=some v
 | [],_,_,_,_,h,_,_=>by simp at h
 | _::_,[],_,_,_,_,h,_=>by simp at h
 | p::P,w::vs,0,m,nd,h1,h2,hk=>by
  simp at h1 h2;subst h1;subst h2
  show bindC kindOf ((p,w)::P.zip vs) m p=_
  unfold bindC
  rw [ZbO fun v z=>(nodup_cons.mp nd).1 (of_mem_zip z).1,if_neg hk]
  simp
 | p::P,w::vs,i+1,m,nd,h1,h2,hk=>by
  show bindC kindOf ((p,w)::P.zip vs) m x=_
  unfold bindC
  exact ZbS (i:=i) (nodup_cons.mp nd).2 (by simpa using h1) (by simpa using h2) hk
def start (N:List Str)(vs:List V):St:=vs.map some++QH (N.length - vs.length) none
def ZN (CX:Ur)(P:Qj)(w:Qr)(K:Qa)(mg:Str->Option Qb)(base:Heap)(N:List Str)(qual:Str)(scope:Scope)(f:Addr)(cd:Qb)(A:QG)(outer:List Env)(s:Qd)(H:Hp)(E:XK):Cx where
 prog:=P
 w:=w
 K:=K
 mg:=mg
 base:=base
 A:=A.deeper (JW qual scope s.heap.objs.size f cd)
 N:=N
 s₀:=s
 H₀:=H
 env:=JW qual scope s.heap.objs.size f cd
 outer:=outer
 stack:=JW qual scope s.heap.objs.size f cd::outer
 ex:=[]
 calm:=true
 fn:=fun _=>true
 pn:=[]
 xe:=fun e s'=>Qp (Qs P w) (A.deeper (JW qual scope s.heap.objs.size f cd)) (leaving (JW qual scope s.heap.objs.size f cd) e) (fun _ s''=>CX outer H s E e s'') (fun e' s''=>CX outer H s E e' s'') s'
theorem Zdf {sc:Scope}{n:Nat}{x:Str}(h:sc.names.lookup x=some .cell):∃ c,(cellsFrom n sc.names []).lookup x=some c:=by
 have q:=Sj sc.names n [] (.inl h)
 exact Tp.mp q
theorem Zgv {CX:Ur}{P:Qj}{w:Qr}{K:Qa}{mg:Str->Option Qb}{base:Heap}{N ps:List Str}{qual:Str}{scope:Scope}{f:Addr}{J:Qb}{A:QG}{outer:List Env}{s s1:Qd}{H:Hp}{E:XK}{us:List Qb}{vs:List V}
 (S:Zo N ps scope) (hd:A.handled=none) (B:Env0 P w K mg base A outer s H) (hl:vs.length=ps.length) (r:Vals vs us)
 (x:InCallC s s.heap.objs.size (OT (JW qual scope s.heap.objs.size f J).kindOf (ps.zip us) fun _=>none) (cellsFrom (s.heap.objs.size+1) scope.names []) (bindC (JW qual scope s.heap.objs.size f J).kindOf (ps.zip us) fun _=>none) s1) :
 Inv (ZN CX P w K mg base N qual scope f J A outer s H E) [] (start N vs) H s1:=by
 have Z:ps.length<=N.length:=by have:=congrArg List.length S.pre;rw [length_take] at this;omega
 obtain ⟨h1,tk,rfl,W⟩:=x.done
 have G:∀ b:Addr,b ∉ (ZN CX P w K mg base N qual scope f J A outer s H E).ex:=fun b z=>absurd (show b∈([]:List Addr) from z) (by simp)
 refine ⟨⟨B.mod,S.kind,rfl,rfl,Qg _,fun y z c h1 h2=>?_,fun y hy=>?_,fun y c _ h=>?_,fun _=>hd,Around.frames_deeper B.frames,.inr ⟨rfl,rfl⟩,fun b z=>absurd z (G b),B.bs,B.bsz,fun b _ _=>G b,fun b z=>absurd z (G b),B.funs,B.frf⟩,
  rfl,B.bare,Un.kept W,⟨_,x.toInCall.ns,fun i y v h1 h2 h3=>?_⟩,fun y c h=>⟨_,x.cell y c h⟩,B.hok.fresh (Qg _),fun y c h=>?_,fun p hp=>absurd (show p∈([]:List (Addr×Obj)) from hp) (by simp),B.hok.kept W,?_⟩
 ·exact name_of_addr x.apart (GT h1) (GT h2)
 ·have hy:scope.names.lookup y=some .cell\/scope.names.lookup y=some .free:=hy
  rcases hy with hy | hy
  ·exact Zdf hy
  ·exact absurd rfl (S.nofree _ (GT hy))
 ·exact GZ (x.above y c (GT h))
 ·have hi:i < vs.length:=by
   unfold start at h2
   by_cases hi:i < vs.length
   ·exact hi
   ·rw [getElem?_append_right (by simpa using hi)] at h2
    rw [List.getElem?_replicate] at h2
    split at h2<;>cases h2
  have ha:vs[i]?=some v:=by
   unfold start at h2
   rw [getElem?_append_left (by simpa using hi),getElem?_map] at h2
   cases e:vs[i]? with
   | none=>rw [e] at h2;cases h2
   | some a=>rw [e] at h2;cases h2;rfl
  obtain ⟨u,Y,rv⟩:=r.get ha
  have hp:ps[i]?=some y:=by
   rw [<- S.pre,List.getElem?_take_of_lt (by omega)];exact h1
  have I:ps.Nodup:=by rw [<- S.pre];exact S.nd.sublist (Oe _ _)
  refine ⟨u,rv,?_⟩
  rcases S.par y (mem_of_getElem? hp) with k | k
  ·exact .inl ⟨k,ZbW I hp Y k⟩
  ·obtain ⟨c,e⟩:=Zdf (n:=s.heap.objs.size+1) k
   refine .inr ⟨.inl k,c,e,?_⟩
   have q:=x.cell y c e
   rw [ZbS I hp Y (by show scope.names.lookup y≠_;rw [k];decide)] at q
   exact q
 ·exact B.hok.fresh (GZ (x.above y c (GT h)))
 ·unfold start
  show _=N.length
  rw [length_append,length_map,JS]
  omega
theorem ZfG {CX:Ur}{P:Qj}{w:Qr}{K:Qa}{mg:Str->Option Qb}{base:Heap}{k:Nat}{f:Addr}{name qual:Str}{B:Arguments}{body:List Stmt}{scope:Scope}{dV kV doc pm z ct oc:Qb}{an od:Option Addr}
 {osl:Array (Option Qb)} {N ps:List Str} {sp:Sp} (lk:K.lookup f=some ⟨oc,od,.func (JG name qual B body scope dV kV doc pm an z ct),osl⟩) (hcd:SN K z qual=true) (S:Zo N ps scope)
 (len:∀ vs H Q E,sp vs H Q E->vs.length=ps.length)
 (Z:∀ (A:QG) (outer:List Env) (s:Qd) (H:Hp) (vs:List V) (Q:VK) (E:XK),Room k (A.deeper (JW qual scope s.heap.objs.size f z))->sp vs H Q E ->
  ∃ t,PSs (ZN CX P w K mg base N qual scope f z A outer s H E) body t/\t { nx:=fun _ H'=>Q .non H',rt:=Q } (start N vs) H) :
 FnOk P w K mg base CX (k+1) f (JG name qual B body scope dV kV doc pm an z ct) ps sp:=by
 refine ⟨len,fun A outer s H args us vs Q E hr e0 hb r hsp=>?_⟩
 have hl:=len _ _ _ _ hsp
 have KX:K.In s.heap:=e0.mod.kin.keeps fun b o e=>(e0.bs b o e).1
 have lim:s.heap.NoLimit:=e0.mod.nolimit.keeps fun b o e=>(e0.bs b o e).1
 have Y:∀ y∈ps.zip us,scope.names.lookup y.1=some .local\/(scope.names.lookup y.1=some .cell/\((cellsFrom (s.heap.objs.size+1) scope.names []).lookup y.1).isSome=true):=fun ⟨n,v⟩ hy=>by
  rcases S.par n (of_mem_zip hy).1 with q | q
  ·exact .inl q
  ·exact .inr ⟨q,Sj _ _ _ (.inl q)⟩
 refine codeAny_call_function hr.depth (KX _ _ lk) rfl S.co S.gen rfl (PySem.W.codeRec_of KX hcd) (hb _ _ _ _ ?_)
 refine PQ S.kind Y fun env he s1 x=>?_
 subst he
 refine ⟨lim.keeps x.toInCall.keep,codeAny_func ?_⟩
 obtain ⟨t,ht,hq⟩:=Z A outer s H vs Q E (hr.deeper _) hsp
 have I:Inv (ZN CX P w K mg base N qual scope f z A outer s H E) [] (start N vs) H s1:=Zgv S hr.hd e0 hl r x
 refine QX (ht [] s1 (start N vs) H _ I hq) (fun fl s' hs=>?_) fun e s' hs=>hs
 have fin:∀ {G:St} {H':Hp} {v:V} {u:Qb},Inv (ZN CX P w K mg base N qual scope f z A outer s H E) [] G H' s'->RelV v u->Q v H'->CE outer P w H s Q u s' :=
  fun {G H' v u} J rv q=>⟨v,H',J.os,J.bare,J.base,J.hok,rv,q⟩
 cases fl with
 | ret u =>
  obtain ⟨v,G,H',J,rv,q⟩:=hs
  exact fin J rv q
 | next =>
  obtain ⟨G,H',J,q⟩:=hs
  exact fin (v:=V.non) (u:=QR) J rfl q
 | brk =>
  obtain ⟨_,_,_,q⟩:=hs
  exact QS q
 | cont =>
  obtain ⟨_,_,_,q⟩:=hs
  exact QS q
section
variable {X:Cx}{x:Str}{p pos:Pos}{e:Expr}{es:List Expr}{t:TA}{id T:String}{r:List V->Hp->VK->Prop}
def tCB (r:List V->Hp->VK->Prop)(t:TA):TE:=fun σ H Q=>t σ H fun vs H1=>r vs H1 Q
theorem Zv (Z:YD X (.builtin id) r)(S:Gl X x)(W:X.mg x=none)(Y:Jp x=some (.builtin id))(G:PA X (e::es) t)(hn:x≠"__name__":=by decide)(B:(x == ("__debug__":Str))=false:=by decide)
 (he:Qz (e::es) X.env=(false,eval e X.env)::Qz es X.env:=by rfl) (z:(GP pos (Qz es X.env)).any (·.1)=false:=by rfl):PE X (.Call (.Name x p) (e::es) [] pos) (tCB r t):=by
 intro pins s σ H Q I h
 refine QP (Ww I S W Y ?_ hn B)
 exact OC (Zu (G pos pins s σ H _ I h) fun us s1 ⟨vs,H1,I1,r1,J⟩=>Z pins s1 σ H1 vs us Q I1 r1 J) he z
theorem YB (Z:YD X (.type T) r)(S:Gl X x)(W:X.mg x=none)(Y:Jp x=some (.type T))(G:PA X (e::es) t)(hn:x≠"__name__":=by decide)(B:(x == ("__debug__":Str))=false:=by decide)
 (he:Qz (e::es) X.env=(false,eval e X.env)::Qz es X.env:=by rfl) (z:(GP pos (Qz es X.env)).any (·.1)=false:=by rfl):PE X (.Call (.Name x p) (e::es) [] pos) (tCB r t):=by
 intro pins s σ H Q I h
 refine QP (Ww I S W Y ?_ hn B)
 exact Gy (Zu (G pos pins s σ H _ I h) fun us s1 ⟨vs,H1,I1,r1,J⟩=>Z pins s1 σ H1 vs us Q I1 r1 J) he z
end
end L2
namespace HT
open PySem PyProof.Rows
section
open PySem.SeqAt
open PySem.AutoSeq1 (wpAny_loadPart')
open PySem.MeetsSeq PySem.MeetsSeq2 PySem.MeetsSeq3
end
section
variable {prog:Qj}{w:Qr}{A:QG}{E:Qb->Qd->Prop}{s:Qd}
def sIx (n d:Nat):Option Int->Nat
 | none=>d
 | some v=>if v < 0 then (v+(n:Int)).toNat else min v.toNat n
theorem sIx_none (n d:Nat):sIx n d none=d:=rfl
theorem sIx_nat (n d k:Nat):sIx n d (some (k:Int))=min k n:=by
 show (if (k:Int) < 0 then ((k:Int)+(n:Int)).toNat else min (k:Int).toNat n)=min k n
 rw [if_neg (by omega),Int.toNat_natCast]
theorem sIx_le (n d:Nat)(B:d<=n)(o:Option Int):sIx n d o<=n:=by
 cases o with
 | none=>exact B
 | some v =>
  show (if v < 0 then (v+(n:Int)).toNat else min v.toNat n)<=n
  by_cases z:v < 0
  ·rw [if_pos z];omega
  ·rw [if_neg z];exact Nat.min_le_right _ _
end
end HT
namespace L2
open PySem PySem.Spec PyProof.Rows
abbrev TO:=St->Hp->(Option Int->Hp->Prop)->Prop
def PO (X:Cx)(e:Option Expr)(t:TO):Prop :=
 ∀ (pins:List (Addr×Obj)) (s:Qd) (σ:St) (H:Hp) (Q:Option Int->Hp->Prop),Inv X pins σ H s->t σ H Q ->
  Qp (Qs X.prog X.w) X.A (evalPart e X.env) (fun u s'=>∃ o H',Inv X pins σ H' s'/\IsPart u o/\Q o H') X.xe s
def ZkN:TO:=fun _ H Q=>Q none H
def ZmE (t:TE):TO:=fun σ H Q=>t σ H fun x H1=>∃ i,x=.int i/\Q (some i) H1
theorem ZfV {z:List Int}:∀{us:List Qb},Vals (z.map V.int) us->Ra us z:=by
 induction z with
 | nil=>intro us r;rw [Sk] at r;cases r;exact .nil
 | cons n z ih =>
  intro us r
  rw [map_cons] at r
  cases r with
  | cons r1 r2 =>
   obtain ⟨t,e⟩:=r1
   subst e
   exact .cons n t (ih r2)
section
variable {X:Cx}{e:Expr}{te:TE}{lo hi:Option Expr}{tl th:TO}{pos p2:Pos}
theorem XM:PO X none ZkN:=by
 intro pins s σ H Q I h
 rw [evalPart_none]
 exact Qu ⟨none,H,I,.none,h⟩
theorem Wq (h:PE X e te):PO X (some e) (ZmE te):=by
 intro pins s σ H Q I J
 rw [evalPart_some]
 refine Zu (h pins s σ H _ I J) fun u s1 ⟨x,H1,B,G,z⟩=>?_
 obtain ⟨i,rfl,q⟩:=z
 obtain ⟨t,rfl⟩:=G
 exact ⟨some i,H1,B,.int i t,q⟩
def SlR (X:Cx)(r:V->Option Int->Option Int->Hp->VK->Prop):Prop :=
 ∀ (pins:List (Addr×Obj)) (s:Qd) (σ:St) (H:Hp) (x:V) (v vl vu:Qb) (lo hi:Option Int) (sl:Addr) (Q:VK),Inv X pins σ H s->RelV x v->s.heap.IsSliceOf sl vl vu .none->IsPart vl lo->IsPart vu hi->r x lo hi H Q ->
  ∃ T id,QU (.type T) "__getitem__"=pure (some (.builtin id))/\s.TypeIs v T/\Qp (Qs X.prog X.w) X.A (getItem v (.ref sl)) (EP X pins σ Q) X.xe s
def tSl (r:V->Option Int->Option Int->Hp->VK->Prop)(te:TE)(tl th:TO):TE:=fun σ H Q=>te σ H fun x H1=>tl σ H1 fun l H2=>th σ H2 fun u H3=>r x l u H3 Q
theorem Wm {r:V->Option Int->Option Int->Hp->VK->Prop}(hr:SlR X r)(he:PE X e te)(W:PO X lo tl)(hu:PO X hi th):PE X (.Subscript e (.Slice lo hi none p2) pos) (tSl r te tl th):=by
 intro pins s σ H Q I h
 refine RE (Zu (he pins s σ H _ I h) fun v s1 ⟨x,H1,I1,r1,q1⟩=>?_)
 refine wpAny_Slice (Zu (W pins s1 σ H1 _ I1 q1) fun B s2 ⟨l,H2,I2,pl,q2⟩=>Zu (hu pins s2 σ H2 _ I2 q2) fun G z ⟨u,J,Y,Z,q3⟩=>?_)
 rw [evalPart_none]
 refine Qu ?_
 have S:Inv X pins σ J { z with heap:=z.heap.push { cls:=.type "slice",data:=.fields #[B,G,.none] } }:=Y.kept (t':=z.toks) fun b ob q=>Qc _ q
 obtain ⟨T,id,hT,ht,hg⟩:=hr pins { z with heap:=z.heap.push { cls:=.type "slice",data:=.fields #[B,G,.none] } } σ J x v B G l u z.heap.objs.size Q S r1 (RF ..) pl Z q3
 show Qp (Qs X.prog X.w) X.A (Rq e (.Slice lo hi none p2) v (.ref z.heap.objs.size)) (EP X pins σ Q) X.xe { z with heap:=z.heap.push { cls:=.type "slice",data:=.fields #[B,G,.none] } }
 exact tail_any (ops:=[.ref z.heap.objs.size,v]) ht hT hg (by with_unfolding_all rfl)
def Zbx (xs:List V)(lo hi:Option Int):List V:=(xs.drop (HT.sIx xs.length 0 lo)).take (HT.sIx xs.length xs.length hi - HT.sIx xs.length 0 lo)
theorem ZdX (xs:List V)(lo hi:Option Int):(Zbx xs lo hi).length<=xs.length:=by
 unfold Zbx
 rw [length_take,JX]
 omega
end
def Wz (n:Nat)(i:Int):Option Nat:=if 0<=i then (if i < n then some i.toNat else none) else if -(n:Int)<=i then some (i+n).toNat else none
def YK {α:Type}(xs:List α)(i:Int):Option α:=(Wz xs.length i).bind fun j=>xs[j]?
theorem Zbr {n:Nat}{i:Int}{j:Nat}(h:Wz n i=some j):seqIndex? i n=some j/\j < n/\-(n:Int)<=i/\i < n:=by
 unfold Wz at h
 by_cases z:0<=i
 ·rw [if_pos z] at h
  by_cases h1:i < n
  ·rw [if_pos h1] at h
   have e:i.toNat=j:=Qv h
   exact ⟨by rw [OU z h1,e],by omega,by omega,h1⟩
  ·rw [if_neg h1] at h;cases h
 ·rw [if_neg z] at h
  by_cases h1:-(n:Int)<=i
  ·rw [if_pos h1] at h
   have e:(i+n).toNat=j:=Qv h
   exact ⟨by rw [Of (by omega) h1,e],by omega,h1,by omega⟩
  ·rw [if_neg h1] at h;cases h
theorem Zbi {z:Type}{xs:List z}{i:Int}{v:z}(h:YK xs i=some v):∃ j,seqIndex? i xs.length=some j/\xs[j]?=some v/\j < xs.length/\-(xs.length:Int)<=i/\i < xs.length:=by
 unfold YK at h
 cases e:Wz xs.length i with
 | none=>rw [e] at h;cases h
 | some j =>
  rw [e] at h
  obtain ⟨h1,h2,G,B⟩:=Zbr e
  exact ⟨j,h1,h,h2,G,B⟩
theorem ZJ {z:Type}{xs:List z}{j:Nat}{v:z}(h:xs[j]?=some v):YK xs (j:Int)=some v:=by
 have hj:j < xs.length:=(Qn.mp h).1
 have e:Wz xs.length (j:Int)=some j:=by
  unfold Wz
  rw [if_pos (by omega),if_pos (by omega)];simp
 unfold YK;rw [e];exact h
theorem ZiJ {z:Type}(xs:List z)(v:z):YK (xs++[v]) (-1)=some v:=by
 have B:(xs++[v]).length=xs.length+1:=by simp
 have e:Wz (xs++[v]).length (-1)=some xs.length:=by
  unfold Wz
  rw [B,if_neg (by decide),if_pos (by omega)]
  congr 1
  omega
 unfold YK
 rw [e]
 show (xs++[v])[xs.length]?=some v
 simp
def ZjT (b:Expr):Prop:=∀ o i,subscripted b false o i=operate [o,i] (getItem o i)
def IxR (X:Cx)(r:R2):Prop :=
 ∀ (value slice:Expr) (pins:List (Addr×Obj)) (s:Qd) (σ:St) (H:Hp) (x y:V) (v u:Qb) (Q:VK),Inv X pins σ H s->RelV x v->RelV y u->r x y H Q ->
  subscripted slice false v u=operate [v,u] (getItem v u)->Qp (Qs X.prog X.w) X.A (Rq value slice v u) (EP X pins σ Q) X.xe s
def MtR (X:Cx)(id:String)(r:V->List V->Hp->VK->Prop):Prop :=
 ∀ (pins:List (Addr×Obj)) (s:Qd) (σ:St) (H:Hp) (x:V) (xs:List V) (v:Qb) (us:List Qb) (Q:VK),Inv X pins σ H s->RelV x v->Vals xs us->r x xs H Q ->
  Qp (Qs X.prog X.w) X.A (call (.builtin id) (v::us)) (EP X pins σ Q) X.xe s
section
variable {X:Cx}{a b:Expr}{ta tb:TE}{pos:Pos}
theorem Zr {r:R2}(S:IxR X r)(J:PE X a ta)(Y:PE X b tb)(z:ZjT b):PE X (.Subscript a b pos) (tOp r ta tb):=by
 intro pins s σ H Q I h
 exact RE (ZhZ J Y I h fun v u s2 x y H2 B G W q=>S a b pins s2 σ H2 x y v u Q B G W q (z _ _))
def rIxL (K:Qa):R2:=fun x y H Q=>∃ p xs i v,x=.ref p/\y=.int i/\SqL K H p xs/\YK xs i=some v/\Q v H
def rIxT (K:Qa):R2:=fun x y H Q=>∃ p xs i v,x=.ref p/\y=.int i/\SqT K H p xs/\YK xs i=some v/\Q v H
def rIxS:R2:=fun x y H Q=>∃ z i c,x=.str z/\y=.int i/\z.length<=Qh/\YK z.cps.toList i=some c/\Q (.str ⟨#[c]⟩) H
theorem Zx:IxR X (rIxL X.K):=by
 intro value G pins s σ H x y v u Q I rx ry h W
 obtain ⟨p,xs,i,z,rfl,rfl,hq,he,q⟩:=h
 cases rx
 obtain ⟨t,rfl⟩:=ry
 obtain ⟨J,r,pl,hz⟩:=I.list hq
 obtain ⟨j,h1,h2,h3,h4,h5⟩:=Zbi he
 obtain ⟨w,Y,S⟩:=r.get h2
 have hl:=r.length
 have hn:=WV
 have B:EP X pins σ Q w s:=⟨z,H,I,S,q⟩
 by_cases Z:0<=i
 ·have hj:i.toNat=j:=by
   rw [OU Z h5] at h1
   exact Qv h1
  exact item_listR pl.isList Z (by omega) (by rw [hj];simpa using Y) B W
 ·have hj:(i+(J.toArray.size:Int)).toNat=j:=by
   rw [Of (by omega) h4] at h1
   rw [size_toArray,<- hl]
   exact Qv h1
  exact JH (x:=w) pl.isList.typeIs Th.lookup
   (wpAny_getItem_list_neg (Q:=fun r s'=>r=w/\EP X pins σ Q r s') pl.isList (by omega) (by rw [size_toArray]<;>omega) (by omega) (by rw [hj];simpa using Y) ⟨rfl,B⟩) W
theorem Yd:IxR X (rIxT X.K):=by
 intro value B pins s σ H x y v u Q I S Y h hs
 obtain ⟨p,xs,i,z,rfl,rfl,hq,he,q⟩:=h
 cases S
 obtain ⟨t,rfl⟩:=Y
 obtain ⟨Z,r,pl,hz⟩:=I.tuple hq
 obtain ⟨j,h1,h2,h3,h4,h5⟩:=Zbi he
 obtain ⟨w,ew,J⟩:=r.get h2
 have W:=r.length
 have hn:=WV
 have G:EP X pins σ Q w s:=⟨z,H,I,J,q⟩
 exact JH (x:=w) pl.typeIs RG.lookup
  (getItem_tuple (j:=j) (Q:=fun r s'=>r=w/\EP X pins σ Q r s') pl (by omega) (by omega) (by rw [size_toArray,<- W];exact h1) (by simpa using ew) ⟨rfl,G⟩) hs
theorem WD:IxR X rIxS:=by
 intro value B pins s σ H x y v u Q I S W h J
 obtain ⟨z,i,c,rfl,rfl,hz,he,q⟩:=h
 obtain ⟨t,rfl⟩:=S
 obtain ⟨t',rfl⟩:=W
 obtain ⟨j,h1,h2,h3,G,Z⟩:=Zbi he
 have Y:z.cps.toList.length=z.length:=by simp [Str.length]
 rw [Y] at h1 G Z
 have hn:=WV
 exact tail_any (RH s z t) slot_str_getitem.lookup (getItem_str (c:=c) (by
  have e1:decide (i < -(2 ^ 63:Int))=false:=decide_eq_false (by omega)
  have e2:decide (i ≥ 2 ^ 63)=false:=decide_eq_false (by omega)
  rw [e1,e2,Bool.or_false]) (by rw [h1];simpa using h2) ⟨.str ⟨#[c]⟩,H,I.tok _,⟨_,rfl⟩,q⟩) J
theorem Zfy (z:List Qb)(n j:Nat)(u:Qb):QT (·.setIfInBounds j u) { cls:=.type "list",data:=.seq z.toArray n }={ cls:=.type "list",data:=.seq (z.set j u).toArray n }:=by
 simp [QT]
theorem Inv.lst {pins:List (Addr×Obj)}{σ:St}{H:Hp}{s:Qd}{p:Addr}{xs:List V}(I:Inv X pins σ H s)(h:H p=some (.lst xs)) :
 ∃ (B:List Qb) (n:Nat),Vals xs B/\s.heap.get? p=some { cls:=.type "list",data:=.seq B.toArray n }/\xs.length<=sizeLine:=by
 obtain ⟨z,B,n,r,e⟩:=I.hok p _ h
 exact ⟨B,n,r,e,z⟩
theorem Inv.lstUpd {pins:List (Addr×Obj)}{σ:St}{H:Hp}{s:Qd}{p:Addr}{xs ys:List V}{z its':List Qb}{n B:Nat}{f:Obj->Obj}(I:Inv X pins σ H s)(h:H p=some (.lst xs))
 (W:s.heap.get? p=some { cls:=.type "list",data:=.seq z.toArray n }) (G:f { cls:=.type "list",data:=.seq z.toArray n }={ cls:=.type "list",data:=.seq its'.toArray B }) (r:Vals ys its') (J:ys.length<=Qh) (t:Nat) :
 Inv X pins σ (upd H p (.lst ys)) { s with heap:=s.heap.update p f,toks:=t }:=by
 have e:(s.heap.update p f).get? p=some { cls:=.type "list",data:=.seq its'.toArray B }:=by
  rw [Jf f W (by rw [G]<;>rfl),G]
 refine I.write (x:=p) (e:=p) (by rw [h];trivial) (.inl rfl) (fun b u S q=>(Gj _ _ (Gg S)).trans q) ⟨_,e⟩ ?_
 exact ⟨J,its',B,r,e⟩
def Zng:V->V->V->Hp->(Hp->Prop)->Prop:=fun o i v H Q=>∃ p xs k j,o=.ref p/\i=.int k/\H p=some (.lst xs)/\Wz xs.length k=some j/\Q (upd H p (.lst (xs.set j v)))
theorem US:PSet X Zng:=by
 intro pins s σ H o i v ov iv u Q I ro ri rv h
 obtain ⟨p,xs,k,j,rfl,rfl,hp,hj,q⟩:=h
 cases ro
 obtain ⟨t,rfl⟩:=ri
 obtain ⟨z,n,r,J,hz⟩:=I.lst hp
 obtain ⟨h1,h2,Z,S⟩:=Zbr hj
 have B:=r.length
 have hn:=WV
 have Y:Inv X pins σ (upd H p (.lst (xs.set j v))) { s with heap:=s.heap.update p (QT (·.setIfInBounds j u)) } :=
  I.lstUpd hp J (Zfy z n j u) (r.set rv j) (by rw [length_set];exact hz) s.toks
 by_cases h0:0<=k
 ·have G:k.toNat=j:=by
   rw [OU h0 S] at h1
   exact Qv h1
  exact PySem.W.ki_setAt J h0 (by omega) (by rw [size_toArray,<- B];exact S) (by rw [G];exact ⟨_,Y,q⟩)
 ·have G:(k+(z.toArray.size:Int)).toNat=j:=by
   rw [Of (by omega) Z] at h1
   rw [size_toArray,<- B]
   exact Qv h1
  exact PySem.W.ki_setBack J (by omega) (by rw [size_toArray,<- B];exact Z) (by omega) (by rw [G];exact ⟨_,Y,q⟩)
theorem ZcQ (lo hi:Option Int)(n:Nat):(GY lo hi none n).1=((HT.sIx n 0 lo:Nat):Int)/\(GY lo hi none n).2.1=((HT.sIx n n hi:Nat):Int)/\(GY lo hi none n).2.2=1:=by
 refine ⟨?_,?_,rfl⟩
 ·cases lo with
  | none=>simp [GY,HT.sIx]
  | some i =>
   simp only [GY,HT.sIx,OD,show (1:Int) > 0 by decide,if_true]
   by_cases h:i < 0
   ·simp only [h,if_true]<;>omega
   ·simp only [h,if_false]<;>omega
 ·cases hi with
  | none=>simp [GY,HT.sIx]
  | some i =>
   simp only [GY,HT.sIx,OD,show (1:Int) > 0 by decide,if_true]
   by_cases h:i < 0
   ·simp only [h,if_true]<;>omega
   ·simp only [h,if_false]<;>omega
theorem Zce (z:List Qb)(lo hi:Option Int):OE z.toArray lo hi none=((z.drop (HT.sIx z.length 0 lo)).take (HT.sIx z.length z.length hi - HT.sIx z.length 0 lo)).toArray:=by
 obtain ⟨h1,h2,B⟩:=ZcQ lo hi z.toArray.size
 unfold OE
 rw [h1,h2,B]
 simp only [sliceRange_one,pick_run,size_toArray]<;>rfl
def rSlL (K:Qa):V->Option Int->Option Int->Hp->VK->Prop:=fun x lo hi H Q=>∃ a xs,x=.ref a/\SqL K H a xs/\∀ p,H p=none->Q (.ref p) (upd H p (.lst (Zbx xs lo hi)))
theorem Zbl:SlR X (rSlL X.K):=by
 intro pins s σ H x v vl vu lo hi sl Q I S J pl W h
 obtain ⟨a,xs,rfl,Z,q⟩:=h
 cases S
 obtain ⟨Y,r,B,G⟩:=I.list Z
 have z:=r.length
 refine ⟨"list",_,Th.lookup,B.isList.typeIs,?_⟩
 refine Tq B.isList J pl W .none (by simp) ?_ (by rw [size_toArray]<;>omega)
 rw [Zce,<- z]
 refine ⟨.ref s.heap.objs.size,_,I.laid (t':=s.toks) (o:=.lst (Zbx xs lo hi)) (fun b ob q=>Qc _ q) (Qg _) ?_,rfl,q _ (I.hok.fresh (Qg _))⟩
 exact ⟨Qw (ZdX xs lo hi) G,_,0,(r.drop (HT.sIx xs.length 0 lo)).take (HT.sIx xs.length xs.length hi - HT.sIx xs.length 0 lo),Qo _ rfl⟩
def WJ:V->Bool
 | .non=>true
 | .bl _=>true
 | .int _=>true
 | .str _=>true
 | _=>false
def eqV:V->V->Bool
 | .non,.non=>true
 | .bl a,.bl b=>a == b
 | .bl a,.int b=>(if a then 1 else 0) == b
 | .int a,.bl b=>a == (if b then 1 else 0)
 | .int a,.int b=>a == b
 | .str a,.str b=>a == b
 | _,_=>false
theorem ZlD {A:QG}{s:Qd}{y x:V}{u v:Qb}(B:RelV y u)(z:RelV x v)(I:WJ y=true)(G:WJ x=true):SeqAt.EqAt A s u v (eqV y x):=by
 cases y with
 | non =>
  cases B
  cases x with
  | non=>cases z;exact SeqAt.EqAt.same _
  | bl b=>cases z;exact SeqAt.EqAt.none_bool b
  | int b=>obtain ⟨t,rfl⟩:=z;exact SeqAt.EqAt.none_int b t
  | str b=>obtain ⟨t,rfl⟩:=z;exact SeqAt.EqAt.none_str b t
  | _=>exact absurd (show false=true from G) Qt
 | bl a =>
  cases B
  cases x with
  | non=>cases z;exact SeqAt.EqAt.bool_none a
  | bl b=>cases z;exact SeqAt.EqAt.bool_bool a b
  | int b=>obtain ⟨t,rfl⟩:=z;exact SeqAt.EqAt.bool_int a b t
  | str b=>obtain ⟨t,rfl⟩:=z;exact SeqAt.EqAt.bool_str a b t
  | _=>exact absurd (show false=true from G) Qt
 | int a =>
  obtain ⟨t',rfl⟩:=B
  cases x with
  | non=>cases z;exact SeqAt.EqAt.int_none a t'
  | bl b=>cases z;exact SeqAt.EqAt.int_bool a t' b
  | int b=>obtain ⟨t,rfl⟩:=z;exact SeqAt.EqAt.int_int a t' b t
  | str b=>obtain ⟨t,rfl⟩:=z;exact Rw a t' b t
  | _=>exact absurd (show false=true from G) Qt
 | str a =>
  obtain ⟨t',rfl⟩:=B
  cases x with
  | non=>cases z;exact SeqAt.EqAt.str_none a t'
  | bl b=>cases z;exact SeqAt.EqAt.str_bool a t' b
  | int b=>obtain ⟨t,rfl⟩:=z;exact Rx a t' b t
  | str b=>obtain ⟨t,rfl⟩:=z;exact SeqAt.EqAt.str_str a t' b t
  | _=>exact absurd (show false=true from G) Qt
 | _=>exact absurd (show false=true from I) Qt
def eqU (x:V)(u:Qb):Bool:=match u with
 | .none=>eqV .non x
 | .bool b=>eqV (.bl b) x
 | .int i _=>eqV (.int i) x
 | .str z _=>eqV (.str z) x
 | _=>false
theorem Zhd {x y:V}{u:Qb}(r:RelV y u)(f:WJ y=true):eqU x u=eqV y x:=by
 cases y with
 | non=>cases r;rfl
 | bl b=>cases r;rfl
 | int i=>obtain ⟨t,rfl⟩:=r;rfl
 | str z=>obtain ⟨t,rfl⟩:=r;rfl
 | _=>exact absurd (show false=true from f) Qt
theorem Zbj {x:V}:∀{xs:List V}{us:List Qb},Vals xs us->xs.all WJ=true->us.any (eqU x)=xs.any fun y=>eqV y x
 | _,_,.nil,_=>rfl
 | y::xs,u::us,.cons r t,f=>by
  rw [Rt,QM] at f
  rw [any_cons,any_cons,Zhd r f.1,Zbj t f.2]
theorem Zak {A:QG}{s:Qd}{x:V}{v:Qb}(B:RelV x v)(z:WJ x=true):∀{xs:List V}{us:List Qb},Vals xs us->xs.all WJ=true->∀ u∈us,SeqAt.EqAt A s u v (eqU x u)
 | _,_,.nil,_=>fun u hu=>by cases hu
 | y::xs,u::us,.cons r t,f=>fun G hu=>by
  rw [Rt,QM] at f
  rcases mem_cons.mp hu with rfl | hu
  ·rw [Zhd r f.1];exact ZlD r B f.1 z
  ·exact Zak B z t f.2 G hu
def inV (x:V)(xs:List V):Bool:=xs.any fun y=>eqV y x
def rIn (K:Qa)(neg:Bool):R2:=fun x y H Q=>∃ p xs,y=.ref p/\(SqL K H p xs\/SqT K H p xs)/\WJ x=true/\xs.all WJ=true/\Q (.bl (if neg then !inV x xs else inV x xs)) H
theorem Vm:YY X (Gu .NotIn) (rIn X.K true):=by
 intro pins s σ H x y v u Q I G W h
 obtain ⟨p,xs,rfl,hq,J,fs,q⟩:=h
 cases W
 rcases hq with hq | hq
 ·obtain ⟨z,r,pl,S⟩:=I.list hq
  refine SeqAt.notIn_listAt (eqU x) pl.isList (fun w B=>Zak G J r fs w (by simpa using B)) ⟨.bl _,H,I,rfl,?_⟩
  rw [show z.toArray.any (eqU x)=z.any (eqU x) by simp,Zbj r fs]
  exact q
 ·obtain ⟨z,r,pl,S⟩:=I.tuple hq
  refine SeqAt.notIn_tupleAt (eqU x) pl (fun w B=>Zak G J r fs w (by simpa using B)) ⟨.bl _,H,I,rfl,?_⟩
  rw [show z.toArray.any (eqU x)=z.any (eqU x) by simp,Zbj r fs]
  exact q
theorem Zy:YD X (.builtin "len") (fun xs H Q=>∃ p ys,xs=[.ref p]/\(SqL X.K H p ys\/SqT X.K H p ys)/\Q (.int ys.length) H):=by
 intro pins s σ H xs us Q I r h
 obtain ⟨p,ys,rfl,hq,q⟩:=h
 obtain ⟨u,rfl,S⟩:=YC r
 cases S
 have W:=WV
 rcases hq with hq | hq
 ·obtain ⟨G,B,pl,J⟩:=I.list hq
  have z:=B.length
  exact Rf pl.isList (by simp only [size_toArray]<;>omega) ⟨.int ys.length,H,I.tok _,⟨s.toks+1,by rw [size_toArray,z]⟩,q⟩
 ·obtain ⟨G,B,pl,J⟩:=I.tuple hq
  have z:=B.length
  exact len_tuple pl (by simp only [size_toArray]<;>omega) ⟨.int ys.length,H,I.tok _,⟨s.toks+1,by rw [size_toArray,z]⟩,q⟩
theorem Ud:YD X (.type "list") (fun xs H Q=>∃ p ys,xs=[.ref p]/\(SqL X.K H p ys\/SqT X.K H p ys)/\∀ l,H l=none->Q (.ref l) (upd H l (.lst ys))):=by
 intro pins s σ H xs us Q I r h
 obtain ⟨p,ys,rfl,hq,q⟩:=h
 obtain ⟨u,rfl,rx⟩:=YC r
 cases rx
 have W:∀ (z:List Qb),Vals ys z->ys.length<=Qh->∀ (h':Heap) (B:Nat),(∀ b o',s.heap.get? b=some o'->h'.get? b=some o') ->
     h'.get? s.heap.objs.size=some { cls:=.type "list",dict:=none,data:=.seq z.toArray B,slots:=#[] }->EP X pins σ Q (.ref s.heap.objs.size) { s with heap:=h' }:=fun z G J h' B kp e =>
   ⟨.ref s.heap.objs.size,_,I.laid (t':=s.toks) kp (Qg _) (show ObjOk X.prog X.w _ h' _ (.lst ys) from ⟨J,z,B,G,e⟩),rfl,q _ (I.hok.fresh (Qg _))⟩
 rcases hq with hq | hq
 · obtain ⟨z,G,pl,J⟩:=I.list hq
   have S:=G.length
   obtain ⟨o,Y,Z,n,hd⟩:=pl.isList
   exact call_list_seq p (.inl rfl) Y Z hd (fun h' B kp e=>W z G J h' B kp e) (by simp only [size_toArray]<;>omega)
 · obtain ⟨z,G,pl,J⟩:=I.tuple hq
   have S:=G.length
   obtain ⟨o,Y,Z,n,hd⟩:=pl
   exact call_list_seq p (.inr rfl) Y Z hd (fun h' B kp e=>W z G J h' B kp e) (by simp only [size_toArray]<;>omega)
theorem Zcd:YD X (.type "tuple") (fun xs H Q=>∃ p ys,xs=[.ref p]/\((SqL X.K H p ys/\∀ l,H l=none->Q (.ref l) (upd H l (.tup ys)))\/(SqT X.K H p ys/\Q (.ref p) H))):=by
 intro pins s σ H xs us Q I r h
 obtain ⟨p,ys,rfl,h⟩:=h
 obtain ⟨u,rfl,Z⟩:=YC r
 cases Z
 rcases h with ⟨G,q⟩ | ⟨G,q⟩
 ·obtain ⟨z,B,pl,J⟩:=I.list G
  have S:=B.length
  refine OY pl.isList (fun h' kp=>?_) (by simp only [size_toArray]<;>omega)
  have W:Inv X pins σ H { s with heap:=h' }:=I.kept (t':=s.toks) kp
  have Y:Inv X pins σ (upd H h'.objs.size (.tup ys)) { s with heap:=h'.push { cls:=.type "tuple",data:=.seq z.toArray } } :=
   W.laid (t':=s.toks) (fun b o e=>Qc _ e) (Qg _) (show ObjOk X.prog X.w _ _ _ (.tup ys) from ⟨J,z,B,TH _ _⟩)
  exact ⟨.ref h'.objs.size,_,Y,rfl,q _ (W.hok.fresh (Qg _))⟩
 ·obtain ⟨z,B,pl,J⟩:=I.tuple G
  exact call_tuple_same pl ⟨.ref p,H,I,rfl,q⟩
def tyV (K:Qa)(T:String)(x:V)(H:Hp):Prop:=match x with
 | .str _=>T="str"
 | .int _=>T="int"
 | .ref p=>(T="list"/\∃ xs,SqL K H p xs)\/(T="tuple"/\∃ o,K.lookup p=some o/\o.cls=.type "tuple"/\o.dict=none) \/
     (T="dict"/\((∃ kvs,H p=some (.dK kvs))\/∃ kvs,H p=some (.dT kvs)))\/(T="set"/\∃ S n,H p=some (.set S n))
 | _=>False
theorem Zhi {pins:List (Addr×Obj)}{σ:St}{H:Hp}{s:Qd}{T:String}{x:V}{v:Qb}(I:Inv X pins σ H s)(r:RelV x v)(ty:tyV X.K T x H) :
 s.TypeIs v T/\∀ a,v=.ref a->∃ W,s.heap.get? a=some W/\W.dict=none:=by
 cases x with
 | str z =>
  obtain ⟨t,rfl⟩:=r
  cases (show T="str" from ty)
  exact ⟨RH s z t,fun _ e=>nomatch e⟩
 | int i =>
  obtain ⟨t,rfl⟩:=r
  cases (show T="int" from ty)
  exact ⟨typeIs_int s i t,fun _ e=>nomatch e⟩
 | ref p =>
  cases r
  rcases ty with ⟨rfl,xs,hq⟩ | ⟨rfl,o,B,Y,J⟩ | ⟨rfl,B⟩ | ⟨rfl,S,n,B⟩
  ·obtain ⟨Z,_,pl,_⟩:=I.list hq
   refine ⟨pl.isList.typeIs,fun a e=>?_⟩
   cases e
   obtain ⟨o,n,e,c,J,_⟩:=pl
   exact ⟨o,e,J⟩
  ·refine ⟨⟨o,I.kIn p o B,Y⟩,fun a e=>?_⟩
   cases e
   exact ⟨o,I.kIn _ o B,J⟩
  ·have z:∃ o,s.heap.get? p=some o/\o.ExactDict:=by
    rcases B with ⟨kvs,B⟩ | ⟨kvs,B⟩
    ·obtain ⟨_,_,_,_,o,_,_,e,ex,_⟩:=I.hok p _ B
     exact ⟨o,e,ex⟩
    ·obtain ⟨_,_,_,_,o,_,_,e,ex,_⟩:=I.hok p _ B
     exact ⟨o,e,ex⟩
   obtain ⟨o,e,ex⟩:=z
   refine ⟨⟨o,e,ex.1⟩,fun a G=>?_⟩
   cases G
   exact ⟨o,e,ex.2.1⟩
  ·obtain ⟨o,_,_,_,e,ex,_⟩:=I.hok p _ B
   refine ⟨⟨o,e,ex.1⟩,fun a G=>?_⟩
   cases G
   exact ⟨o,e,ex.2.1⟩
 | _=>exact QS ty
def tBM0 (K:Qa)(T:String)(r:V->List V->Hp->VK->Prop)(to:TE):TE:=fun σ H Q=>to σ H fun x H1=>tyV K T x H1/\r x [] H1 Q
def tBM (K:Qa)(T:String)(r:V->List V->Hp->VK->Prop)(to:TE)(t:TA):TE:=fun σ H Q=>to σ H fun x H1=>tyV K T x H1/\t σ H1 fun xs H2=>r x xs H2 Q
variable {o e:Expr}{es:List Expr}{to:TE}{t:TA}{name:Str}{apos cpos:Pos}{T id:String}{r:V->List V->Hp->VK->Prop}
theorem ZlU (pa:PlainAttrs T)(G:Slot T name id)(J:typeOf (.builtin id)=pure (.type "method_descriptor"))(hm:MtR X id r)(Y:PE X o to)
 (B:Jv o name X.env (eval o X.env)=eval o X.env:=by rfl) (z:(apos.endLine == cpos.line)=true:=by rfl):PE X (.Call (.Attribute o name apos) [] [] cpos) (tBM0 X.K T r to):=by
 intro pins s σ H Q I h
 refine wpAny_Call_method0_late B z (Zu (Y pins s σ H _ I h) fun v s1 ⟨x,H1,S,W,ty,Z⟩=>?_)
 obtain ⟨h1,h2⟩:=Zhi S W ty
 exact ⟨T,id,pa,G,J,h1,h2,JI rfl (PySem.evalArgs_none (hm pins s1 σ H1 x [] v [] Q S W .nil Z))⟩
theorem Yz (pa:PlainAttrs T)(S:Slot T name id)(W:typeOf (.builtin id)=pure (.type "method_descriptor"))(hm:MtR X id r)(ho:PE X o to)(ha:PA X (e::es) t)
 (G:Jv o name X.env (eval o X.env)=eval o X.env:=by rfl)
 (J:((GP cpos (Qz (e::es) X.env)).all (fun x=>!x.1)&&(Pf cpos (GX [] X.env)).all (fun x=>x.1.isSome)
  && decide ((e::es).length+([]:List Oc).length+(if ([]:List Oc).isEmpty then 0 else 1) < 30))=true:=by rfl)
 (B:(apos.endLine == cpos.line)=true:=by rfl) (hs:Qz (e::es) X.env=(false,eval e X.env)::Qz es X.env:=by rfl) (z:(GP cpos (Qz es X.env)).any (·.1)=false:=by rfl) :
 PE X (.Call (.Attribute o name apos) (e::es) [] cpos) (tBM X.K T r to t):=by
 intro pins s σ H Q I h
 refine wpAny_Call_method_late G J B rfl (Zu (ho pins s σ H _ I h) fun v s1 ⟨x,H1,Y,Z,ty,q1⟩=>?_)
 obtain ⟨h1,h2⟩:=Zhi Y Z ty
 refine ⟨T,id,pa,S,W,h1,h2,?_⟩
 have hA:=ha cpos pins s1 σ H1 _ Y q1
 rw [hs] at hA ⊢
 refine JI (by show (false || (GP cpos (Qz es X.env)).any (·.1))=false;rw [z]<;>rfl) (SO ?_)
 exact Zu hA fun us s2 ⟨vs,H2,I2,r2,q2⟩=>hm pins s2 σ H2 x vs v us Q I2 Z r2 q2
end
def MtM (X:Cx)(id:String)(r:V->List V->Hp->VK->Prop):Prop :=
 ∀ (pins:List (Addr×Obj)) (s:Qd) (σ:St) (H:Hp) (x:V) (xs:List V) (v:Qb) (us:List Qb) (Q:VK),Inv X pins σ H s->RelV x v->Vals xs us->r x xs H Q ->
  Qp (Qs X.prog X.w) X.A (call (.builtin id) (v::us)) (EP X pins σ Q) X.xe s
theorem Vals.one:∀{x:V}{us:List Qb},Vals [x] us->∃ u,us=[u]/\RelV x u
 | _,_,.cons r .nil=>⟨_,rfl,r⟩
theorem Vals.reverse {xs:List V}{us:List Qb}(h:Vals xs us):Vals xs.reverse us.reverse:=by
 induction h with
 | nil=>exact .nil
 | cons r t ih=>rw [Og,Og];exact Vals.append ih (.cons r .nil)
theorem Vals.rep {xs:List V}{us:List Qb}(h:Vals xs us):∀ k:Nat,Vals (QH k xs).flatten (QH k us).flatten
 | 0=>.nil
 | k+1=>by
  rw [GU,GU,JJ,JJ]
  exact Vals.append h (Vals.rep h k)
theorem ZbP (B:List Qb):∀(k:Nat)(z:List Qb),
 RI (fun I G=>I++G) z.toArray (QH k B.toArray)=(z++(QH k B).flatten).toArray
 | 0,z=>by simp
 | k + 1,z=>by
  have e:z.toArray++B.toArray=(z++B).toArray:=by simp
  have J:(z++B)++(QH k B).flatten=z++(QH (k+1) B).flatten:=by
   rw [GU,JJ,JK]
  rw [<- J,<- ZbP B k (z++B),<- e,GU,OZ]
section
variable {X:Cx}{pins:List (Addr×Obj)}{σ:St}{H:Hp}{s:Qd}{l b:Addr}{xs ys zs:List V}
theorem Inv.lset {z its':List Qb}{n:Nat}{f:Array Qb->Array Qb}{t':Nat}(I:Inv X pins σ H s)(Y:H l=some (.lst xs))
 (e:s.heap.get? l=some { cls:=.type "list",data:=.seq z.toArray n }) (J:f z.toArray=its'.toArray) (S:Vals ys its') (B:ys.length<=Qh) :
 Inv X pins σ (upd H l (.lst ys)) { s with heap:=s.heap.update l (QT f),toks:=t' }:=by
 have q:=PySem.IsL.update e f
 rw [J] at q
 refine I.write (x:=l) (e:=l) (by rw [Y];exact trivial) (.inl rfl) (fun Z u G W=>(Gj s.heap (QT f) (Gg G)).trans W) ⟨_,q⟩ ?_
 exact ⟨B,its',_,S,q⟩
theorem Inv.lnew {z:List Qb}{t':Nat}(I:Inv X pins σ H s)(G:Vals ys z)(B:ys.length<=Qh) :
 Inv X pins σ (upd H s.heap.objs.size (.lst ys)) { s with heap:=s.heap.push { cls:=.type "list",data:=.seq z.toArray },toks:=t' } :=
 I.laid (fun _ _ q=>Qc _ q) (Qg _) ⟨B,z,0,G,Qo _ rfl⟩
theorem Inv.fresh (I:Inv X pins σ H s):H s.heap.objs.size=none:=I.hok.fresh (Qg _)
theorem Inv.lstM (I:Inv X pins σ H s)(G:H l=some (.lst xs)):xs.length<=Qh/\∃ (B:List Qb) (n:Nat),Vals xs B/\xs.length=B.length/\s.heap.get? l=some { cls:=.type "list",data:=.seq B.toArray n }:=by
 obtain ⟨z,B,n,r,e⟩:=I.hok l _ G
 exact ⟨z,B,n,r,r.length,e⟩
theorem ZdQ {n:Nat}(h:n<=Qh):GR n=false:=by
 unfold GR
 exact decide_eq_false (by omega)
end
section
variable {X:Cx}
def Zkl:V->List V->Hp->VK->Prop:=fun x vs H Q=>∃ l xs y,x=.ref l/\vs=[y]/\H l=some (.lst xs)/\xs.length < Qh/\Q .non (upd H l (.lst (xs++[y])))
theorem Yl:MtM X "list.append" Zkl:=by
 intro pins s σ H x vs v us Q I S J h
 obtain ⟨l,xs,y,rfl,rfl,G,Y,q⟩:=h
 cases S
 obtain ⟨u,rfl,W⟩:=J.one
 obtain ⟨z,B,n,r,Z,e⟩:=I.lstM G
 refine PR F.slot_list_append ⟨_,e,rfl⟩ F.entry_list_append (F.args_list_append_2 _ _) (PySem.list_append l B.toArray n u (by rw [size_toArray];omega)) ⟨e,?_⟩
 refine ⟨.non,_,I.lset (its':=B++[u]) G e (by simp) (r.append (.cons W .nil)) ?_,rfl,q⟩
 rw [length_append,List.length_singleton]
 omega
def ZkD:V->List V->Hp->VK->Prop:=fun x vs H Q=>∃ l b xs zs,x=.ref l/\vs=[.ref b]/\H l=some (.lst xs)/\H b=some (.lst zs)/\xs.length+zs.length<=Qh/\Q .non (upd H l (.lst (xs++zs)))
theorem ZbM:MtM X "list.extend" ZkD:=by
 intro pins s σ H x vs v us Q I Y W h
 obtain ⟨l,b,xs,zs,rfl,rfl,S,hB,hz,q⟩:=h
 cases Y
 obtain ⟨u,rfl,Z⟩:=W.one
 cases Z
 obtain ⟨z,G,n,r,hl,e⟩:=I.lstM S
 obtain ⟨z2,B,n2,r2,hl2,e2⟩:=I.lstM hB
 have hsz:G.toArray.size+B.toArray.size<=sizeLine:=by rw [size_toArray,size_toArray];omega
 have J:¬ (!G.toArray.isEmpty&&GR (G.toArray.size+B.toArray.size))=true:=by
  rw [ZdQ hsz,Bool.and_false]
  exact Qt
 refine PR F.slot_list_extend ⟨_,e,rfl⟩ F.entry_list_extend (F.args_list_extend_2 _ _)
  (AutoSeq1.list_extend_list_list_0 l G.toArray n b B.toArray n2 J (by rw [size_toArray];omega) (by omega)) ⟨e,e2,?_⟩
 refine ⟨.non,_,I.lset (its':=G++B) S e (by simp) (r.append r2) ?_,rfl,q⟩
 rw [length_append]
 omega
def rCat:R2:=fun x y H Q=>∃ l b xs zs,x=.ref l/\y=.ref b/\H l=some (.lst xs)/\H b=some (.lst zs)/\xs.length+zs.length<=Qh/\∀ p,H p=none->Q (.ref p) (upd H p (.lst (xs++zs)))
theorem Zas:YY X (Ju .Add) rCat:=by
 intro pins s σ H x y v u Q I S W h
 obtain ⟨l,b,xs,zs,rfl,rfl,hH,Z,hz,q⟩:=h
 cases S
 cases W
 obtain ⟨z,G,n,r,hl,e⟩:=I.lstM hH
 obtain ⟨z2,B,n2,r2,Y,J⟩:=I.lstM Z
 refine PySem.P.add_list e J ?_ (by rw [size_toArray,size_toArray];omega)
 have ea:G.toArray++B.toArray=(G++B).toArray:=by simp
 rw [ea]
 exact ⟨.ref _,_,I.lnew (t':=s.toks) (r.append r2) (by rw [length_append];omega),rfl,q _ I.fresh⟩
def rRep:R2:=fun x y H Q=>∃ l k xs,x=.ref l/\y=.int k/\H l=some (.lst xs)/\-(2 ^ 63)<=k/\k < 2 ^ 63/\xs.length * k.toNat<=Qh /\
 ∀ p,H p=none->Q (.ref p) (upd H p (.lst (QH k.toNat xs).flatten))
theorem ZkO {z:Type}(xs:List z)(k:Nat):(QH k xs).flatten.length=k * xs.length:=by
 induction k with
 | zero=>simp
 | succ k ih=>rw [GU,JJ,length_append,ih,Nat.succ_mul,Nat.add_comm]
theorem ZgU:YY X (Ju .Mult) rRep:=by
 intro pins s σ H x y v u Q I rx ry h
 obtain ⟨l,k,xs,rfl,rfl,hH,h1,h2,hz,q⟩:=h
 cases rx
 obtain ⟨t,rfl⟩:=ry
 obtain ⟨z,B,n,r,hl,e⟩:=I.lstM hH
 have J:B.toArray.size * k.toNat<=sizeLine:=by rw [size_toArray,<- hl];exact hz
 have S:¬ B.toArray.size * k.toNat > (2 ^ 63 - 1) / 8:=by
  have:(Qh:Nat)<=(2 ^ 63 - 1) / 8:=by decide
  omega
 have Y:¬ (!Builtin.List.listFitsIndex k)=true:=by
  rw [fitsIndex_both h1 h2]
  exact Qt
 have G:¬ GR (B.toArray.size * k.toNat)=true:=by
  rw [ZdQ J]
  exact Qt
 have W:RI (fun x1 Z=>x1++Z) #[] (QH (if B.toArray.isEmpty=true then 0 else k.toNat) B.toArray)=(QH k.toNat B).flatten.toArray:=by
  have f0:∀ m:Nat,RI (fun x1 Z=>x1++Z) #[] (QH m B.toArray)=(QH m B).flatten.toArray:=fun m=>by
   have:=ZbP B m []
   rw [List.nil_append] at this
   exact this
  rw [f0]
  cases B with
  | nil=>simp
  | cons a r'=>rw [if_neg (by simp)]
 refine wpAny_binaryOp_repeat_ref (T:="list") (U:="int") (by decide) ⟨_,e,rfl⟩ (fun s'=>typeIs_int s' k t) noFill_list_mul F.fills_int_mul Na repeat_list F.slot_int_index.lookup
  (PR Na (typeIs_int s k t) F.entry_int_rmul (F.args_int_rmul_2 _ _) (int___rmul___int_list k t l B.toArray n)
   ⟨e,rfl,⟨_,e,rfl⟩,PR F.slot_list_mul ⟨_,e,rfl⟩ F.entry_list_mul (F.args_list_mul_2 _ _) (AutoListH.list___mul___list_int_3 l B.toArray n k t Y S G) ⟨e,?_⟩⟩)
 rw [W]
 exact ⟨.ref _,_,I.lnew (t':=s.toks) (r.rep k.toNat) (by rw [ZkO,Nat.mul_comm];exact hz),rfl,q _ I.fresh⟩
end
section
variable {prog:Qj}{w:Qr}{A:QG}{E:Qb->Qd->Prop}{s:Qd}
end
section
variable {X:Cx}
end
end L2
namespace Att
open PySem PySem.W PySem.Calls PyProof.Rows
theorem ZaR {P:Params}{h:Heap}:∀(z:List Int)(vs:List Qb),WellAll P h vs (z.map WData.int)->Ra vs z:=by
 intro z
 induction z with
 | nil =>
  intro vs w
  rw [Sk] at w
  cases w
  exact .nil
 | cons n z ih =>
  intro vs w
  rw [map_cons] at w
  cases w with
  | cons a b =>
   cases a
   exact .cons _ _ (ih _ b)
theorem Zgo {l:OpenLaw}{n:Nat}(hn:l.most=some n){P:Params}{h:Heap}{args:List WData}{G:List Qb}
 (B:l.row.toRowW.claim.pre args=true) (Y:WellAll P h G args) :
 ∃ a vs z,G=[Ql a]/\args=[WData.list (z.map WData.int)]/\h.get? a=some { cls:=.type "list",data:=.seq vs.toArray }/\Ra vs z/\z.length<=n:=by
 have W:WShape.hasAll [] args [.list .int]=true:=(pre_splitW B).1
 have Z:l.pre.holds [] { args:=args }=true:=(pre_splitW B).2
 obtain ⟨d,r,rfl,h1,h2⟩:=hasAllW_cons W
 obtain rfl:=hasAllW_nil h2
 obtain ⟨xs,rfl,h3⟩:=hasW_list h1
 obtain ⟨z,rfl⟩:=items_int h3
 have I:z.length<=n:=by
  unfold OpenLaw.pre at Z
  have J:(WTm.not (.lt (.lit (.int (n:Int))) (.len (.arg 0)))).holds [] { args:=[.list (z.map .int)] }=true:=by
   have J:=(holds_andW Z).1
   rw [hn] at J
   exact J
  have S:=condW_of J (w_not (w_lt w_lit (w_len_list (w_arg rfl))))
  rw [length_map] at S
  refine Nat.le_of_not_lt fun q=>?_
  have q':(n:Int) < ((z.length:Nat):Int):=by omega
  first
   | (rw [decide_eq_true q'] at S;exact absurd S (by decide))
   | (simp at S;omega)
 cases Y with
 | cons w1 w2 =>
  cases w2
  cases w1 with
  | list ho hall=>exact ⟨_,_,z,rfl,rfl,ho,ZaR z _ hall,I⟩
theorem ZgV (l:OpenLaw)(args:List WData):l.row.toRowW.claim.post args (.bool true) args=true :=
 postW_of (r:=l.row.toRowW) (X:=(true == true))
  (show WShape.has [] (.bool true) .bool=true by first | rfl | decide | simp [WShape.has,WShape.arms,WShape.armsAll])
  (show (WTm.eq .res (.lit (.bool true))).value [] { args:=args,res:=some (.bool true),after:=args }=some (.bool (true == true)) from w_eq_bool (w_res rfl) w_lit) rfl
theorem attach_call {l:OpenLaw}{n:Nat}{q:Qj}{B:List Str}{XP:(Str->Option Qb)->Heap->Prop}{YP:Qr->Heap->Prop}{d:DefRec}
 (hn:l.most=some n) (hdf:d.params.defaults=[])
 (call:∀ (w:Qr) (I z:Qd) (mg mb:Str->Option Qb) (Z:Addr) (o:Obj) (pm cd S:Qb) (a:Addr) (vs:List Qb) (ns:List Int),
  Ground q B [] XP w I mg mb z.heap->YP w z.heap ->
  z.heap.get? Z=some o->o.data=.func (docDef d.name d.params d.body d.scope pm cd S)->z.heap.CodeRec cd d.name->mg d.name=some (.ref Z) ->
  z.heap.get? a=some { cls:=.type "list",data:=.seq vs.toArray }->Ra vs ns->ns.length<=n->z.gens=#[] ->
  JE (Qs l.prog w) Rb (.call (.ref Z) ⟨[.ref a],[]⟩) (fun r s'=>r=.ok (.ret (.bool true))/\OldK z.heap s'.heap/\s'.os=z.os/\PB s'.gens) z) :
 WalkO q B XP YP l.row.toRowW d [] (fun f vs=>PySem.call f vs):=by
 intro w I z mg mb G Y Z o pm cd S dV kV ho hd hcd hD hmg hg args vals as hpre hlay hrd hwl hlo
 obtain rfl:dV=.none:=Dflts.none hD hdf
 obtain rfl:kV=.none:=Dflts.noKw hD
 obtain ⟨a,vs,ns,rfl,rfl,hobj,J,W⟩:=Zgo hn hpre hwl
 refine enter_call (GK (call w I z mg mb Z o pm cd S a vs ns G Y ho (fd_plain hd) hcd hmg hobj J W hg) fun r s' hq=>?_)
 obtain ⟨rfl,h2,h3,h4⟩:=hq
 exact ⟨.inl ⟨.bool true,.bool true,[],rfl,fun _=>rfl,.bool true,ZgV l _,fun _=>⟨List.Pairwise.nil,fun _ hm=>(nomatch hm)⟩⟩,h2,h3,h4⟩
section
variable {prog:Qj}{w:Qr}{A:QG}{E:Qb->Qd->Prop}{s:Qd}{K:Frag}
end
end Att
namespace L2
open PySem PySem.Spec PyProof.Rows
theorem ZbF:∀{vs:List Qb}{z:List Int},Ra vs z->Vals (z.map V.int) vs
 | _,_,.nil=>.nil
 | _,_,.cons n t h=>.cons ⟨t,rfl⟩ (ZbF h)
def ZF (s:Stmt)(j:Nat):Stmt:=match s with
 | .ClassDef _ _ _ body _ _ _ _ _ _ _=>body.getD j (.Pass ⟨0,0,0,0⟩)
 | _=>.Pass ⟨0,0,0,0⟩
def VJ (s:Stmt):Arguments:=match s with
 | .FunctionDef _ a _ _ _ _ _ _ _ _=>a
 | _=>{ posonlyargs:=[],args:=[],vararg:=none,kwonlyargs:=[],kw_defaults:=[],kwarg:=none,defaults:=[] }
def Xj (s:Stmt):List Stmt:=match s with
 | .FunctionDef _ _ b _ _ _ _ _ _ _=>b
 | _=>[]
def Zj (s:Stmt):Scope:=match s with
 | .FunctionDef _ _ _ _ _ _ sc _ _ _=>sc
 | _=>{ kind:=.function,names:=[],isGenerator:=false,isCoroutine:=false }
abbrev ZH:Ur:=fun _ _ _ _ _ _=>False
abbrev E0:XK:=fun _ _ _=>False
theorem Zcw {X:Cx}:WS ZH X E0:=fun _ _ _ _ _ _ _ h=>h.elim
structure Fun (K:Qa)(x qual:Str)(st:Stmt)(f:Addr)(fd:Qi):Prop where
 ex:∃ (oc:Qb) (od:Option Addr) (kV doc pm:Qb) (an:Option Addr) (cdv ct:Qb) (osl:Array (Option Qb)),
  fd=JG x qual (VJ st) (Xj st) (Zj st) .none kV doc pm an cdv ct/\K.lookup f=some ⟨oc,od,.func fd,osl⟩/\SN K cdv qual=true
 kp:Gs K (.ref f)=true
section
variable {P:Qj}{w:Qr}{K:Qa}{mg:Str->Option Qb}{base:Heap}
theorem Fun.ok {x qual:Str}{st:Stmt}{f:Addr}{fd:Qi}{N ps:List Str}{k:Nat}{sp:Sp}(F:Fun K x qual st f fd)(S:Zo N ps (Zj st))(len:∀ vs H Q E,sp vs H Q E->vs.length=ps.length)
 (B:∀ (z:Qb) (A:QG) (outer:List Env) (s:Qd) (H:Hp) (vs:List V) (Q:VK) (E:XK),Room k (A.deeper (JW qual (Zj st) s.heap.objs.size f z))->sp vs H Q E ->
  ∃ t,PSs (ZN ZH P w K mg base N qual (Zj st) f z A outer s H E).nox (Xj st) t/\t { nx:=fun _ H'=>Q .non H',rt:=Q } (start N vs) H):FnOk P w K mg base ZH (k+1) f fd ps sp:=by
 obtain ⟨oc,od,kV,Y,pm,an,z,Z,W,rfl,lk,G⟩:=F.ex
 refine ZfG lk G S len fun A outer s H vs Q E J I=>?_
 obtain ⟨t,h,q⟩:=B z A outer s H vs Q E J I
 exact ⟨t,h.nox,q⟩
theorem Fun.binds {x qual:Str}{st:Stmt}{f:Addr}{fd:Qi}{ps:List Str}(F:Fun K x qual st f fd)
 (h:∀ (kV z I:Qb) (J:Option Addr) (B G:Qb) (us:List Qb),us.length=ps.length->bindArgs (JG x qual (VJ st) (Xj st) (Zj st) .none kV z I J B G) ⟨us,[]⟩=pure (ps.zip us)):Binds K fd ps []:=by
 obtain ⟨Z,Y,kV,z,I,J,B,G,W,rfl,lk,S⟩:=F.ex
 exact .all (h kV z I J B G)
end
theorem Zcm {A:QG}{k:Nat}(z:Room k A):A.units+1 < cLine:=Gc (Nat.add_le_add_left (by decide:1<=64) _) z.units
theorem Zgc {n:Nat}(h:n<=1000):n < sizeLine:=Gc h (by decide)
section
variable {X:Cx}
theorem pv (i:Nat){x:Str}{pos:Pos}(I:X.N[i]?=some x:=by rfl)(G:Vis X.env.scope x:=by first | exact Qy rfl | exact Tr (Qy rfl) | exact Tr (Tr rfl))(B:(x == ("__debug__":Str))=false:=by decide)
 (z:(x == ("__classdict__":Str))=false:=by decide):PE X (.Name x pos) (ZcS i):=ZlA I G B z
end
theorem Yh {A B:Prop}(h:B):if false=true then A else B:=by
 rw [if_neg Qt]
 exact h
theorem Yo {A B:Prop}(h:A):if true=true then A else B:=by
 rw [if_pos rfl]
 exact h
theorem Wj {c A B:Prop}[Decidable c](h1:c->A)(h2:¬ c->B):if c then A else B:=by
 by_cases h:c
 ·rw [if_pos h]
  exact h1 h
 ·rw [if_neg h]
  exact h2 h
def Same (H H':Hp):Prop:=∀ b o,H b=some o->H' b=some o
theorem Same.refl (H:Hp):Same H H:=fun _ _ h=>h
theorem Same.trans {H H1 H2:Hp}(a:Same H H1)(b:Same H1 H2):Same H H2:=fun c o h=>b c o (a c o h)
section
variable {κ:Type}[DecidableEq κ]
def ZS (kvs:List (κ×V))(k:κ):Option V:=(kvs.find? fun kv=>decide (kv.1=k)).map (·.2)
def YI (kvs:List (κ×V))(k:κ)(v:V):List (κ×V) :=
 if (kvs.any fun kv=>decide (kv.1=k))=true then kvs.map (fun kv=>if kv.1=k then (kv.1,v) else kv) else kvs++[(k,v)]
theorem YE {p:κ×V}{r:List (κ×V)}{k:κ}(e:p.1=k):ZS (p::r) k=some p.2:=by simp [ZS,find?_cons,e]
theorem YF {p:κ×V}{r:List (κ×V)}{k:κ}(e:¬ p.1=k):ZS (p::r) k=ZS r k:=by simp [ZS,find?_cons,e]
theorem UX (k:κ):∀ kvs:List (κ×V),(kvs.any fun z=>decide (z.1=k))=(ZS kvs k).isSome
 | []=>rfl
 | p::r=>by
  rw [any_cons]
  by_cases e:p.1=k
  ·simp only [YE e,decide_eq_true e,Bool.true_or,Option.isSome_some]
  ·rw [YF e,decide_eq_false e,Bool.false_or];exact UX k r
theorem ZcX (k j:κ)(y:V):∀ kvs:List (κ×V),ZS (kvs.map fun B=>if B.1=k then (B.1,y) else B) j=(ZS kvs j).map fun x=>if j=k then y else x
 | []=>rfl
 | p :: r=>by
  have G:=ZcX k j y r
  rw [map_cons]
  by_cases h:p.1=k
  ·rw [if_pos h]
   by_cases e:p.1=j
   ·rw [YE (p:=(p.1,y)) e,YE e,GH,if_pos (e.symm.trans h)]
   ·rw [YF (p:=(p.1,y)) e,YF e,G]
  ·rw [if_neg h]
   by_cases e:p.1=j
   ·rw [YE (p:=p) e,YE e,GH,if_neg (fun z=>h (e.trans z))]
   ·rw [YF (p:=p) e,YF e,G]
theorem ZbE (k j:κ)(y:V):∀ kvs:List (κ×V),ZS kvs k=none->ZS (kvs++[(k,y)]) j=if j=k then some y else ZS kvs j
 | [],_=>by
  by_cases e:k=j
  ·rw [if_pos e.symm];exact YE (p:=(k,y)) e
  ·rw [if_neg (fun z=>e z.symm)];exact YF (p:=(k,y)) e
 | p::r,hn=>by
  rw [OF]
  have B:¬ p.1=k:=fun z=>by rw [YE z] at hn;cases hn
  rw [YF B] at hn
  have G:=ZbE k j y r hn
  by_cases e:p.1=j
  ·rw [YE e,YE e,if_neg (fun z=>B (e.trans z))]
  ·rw [YF e,YF e,G]
theorem WX (kvs:List (κ×V))(k j:κ)(y:V):ZS (YI kvs k y) j=if j=k then some y else ZS kvs j:=by
 unfold YI
 by_cases a:(kvs.any fun z=>decide (z.1=k))=true
 ·rw [if_pos a,ZcX]
  rw [UX] at a
  by_cases e:j=k
  ·obtain ⟨x,B⟩:=Tp.mp a
   rw [if_pos e,e,B,GH,if_pos rfl]
  ·rw [if_neg e]
   cases ZS kvs j with
   | none=>rfl
   | some x=>rw [GH,if_neg e]
 ·rw [if_neg a]
  refine ZbE k j y kvs ?_
  rw [UX] at a
  cases q:ZS kvs k with
  | none=>rfl
  | some x=>rw [q] at a;exact (a rfl).elim
theorem XB (kvs:List (κ×V))(k:κ)(v:V):(YI kvs k v).length<=kvs.length+1:=by
 unfold YI
 split
 ·rw [length_map];omega
 ·rw [length_append,length_cons,Pr];omega
theorem RelO.isSome_eq {o:Option V}{u:Option Qb}(r:RelO o u):o.isSome=u.isSome:=by
 cases o with
 | none=>cases u with
  | none=>rfl
  | some _=>exact (show False from r).elim
 | some _=>cases u with
  | none=>exact (show False from r).elim
  | some _=>rfl
theorem RelO.getD {o:Option V}{u:Option Qb}{d:V}{d':Qb}(r:RelO o u)(rd:RelV d d'):RelV (o.getD d) (u.getD d'):=by
 cases o with
 | none=>cases u with
  | none=>exact rd
  | some _=>exact (show False from r).elim
 | some _=>cases u with
  | none=>exact (show False from r).elim
  | some _=>exact r
theorem KV.val {kvs:List (κ×V)}{vs:List (κ×Qb)}(r:KV kvs vs)(k:κ):RelO (ZS kvs k) (Oh vs k):=by
 unfold KV at r
 induction r with
 | nil=>exact Gn
 | @cons p q ps qs h t ih =>
  obtain ⟨h1,h2⟩:=h
  by_cases e:p.1=k
  ·have B:q.1=k:=h1.symm.trans e
   have b:Oh (q::qs) k=some q.2:=by simp [Oh,find?_cons,B]
   rw [YE e,b];exact h2
  ·have B:¬ q.1=k:=fun z=>e (h1.trans z)
   have b:Oh (q::qs) k=Oh qs k:=by simp [Oh,find?_cons,B]
   rw [YF e,b];exact ih
theorem KV.any {kvs:List (κ×V)}{vs:List (κ×Qb)}(r:KV kvs vs)(k:κ):(kvs.any fun z=>decide (z.1=k))=vs.any fun z=>decide (z.1=k):=by
 unfold KV at r
 induction r with
 | nil=>rfl
 | cons h t ih=>rw [any_cons,any_cons,ih,h.1]
theorem KV.repl {kvs:List (κ×V)}{vs:List (κ×Qb)}(r:KV kvs vs)(k:κ){y:V}{u:Qb}(G:RelV y u) :
 KV (kvs.map fun B=>if B.1=k then (B.1,y) else B) (vs.map fun B=>if B.1=k then (B.1,u) else B):=by
 unfold KV at r ⊢
 induction r with
 | nil=>exact .nil
 | @cons p q ps qs h t ih =>
  rw [map_cons,map_cons]
  refine .cons ?_ ih
  obtain ⟨h1,h2⟩:=h
  by_cases e:p.1=k
  ·rw [if_pos e,if_pos (h1.symm.trans e)];exact ⟨h1,G⟩
  ·rw [if_neg e,if_neg (fun z=>e (h1.trans z))];exact ⟨h1,h2⟩
theorem KV.put {kvs:List (κ×V)}{vs:List (κ×Qb)}(r:KV kvs vs)(k:κ){y:V}{u:Qb}(z:RelV y u):KV (YI kvs k y) (stored vs k u):=by
 unfold YI stored
 rw [r.any k]
 by_cases e:(vs.any fun B=>decide (B.1=k))=true
 ·rw [if_pos e,if_pos e];exact r.repl k z
 ·rw [if_neg e,if_neg e];exact Paired.snoc r ⟨rfl,z⟩
theorem KV.length {kvs:List (κ×V)}{vs:List (κ×Qb)}(r:KV kvs vs):kvs.length=vs.length:=JZ r
end
theorem ZaM {P:Qj}{w:Qr}{k:Zn}{u:Qb}(r:RelV (kV k) u):(ZQ P w).is k u=true:=by
 cases k with
 | inl i=>obtain ⟨t,e⟩:=(show ∃ t,u=Tx i t from r);subst e;exact ZdT P w i t
 | inr x=>obtain ⟨t,e⟩:=(show ∃ t,u=PH x t from r);subst e;exact VU P w x t
theorem ZbR {P:Qj}{w:Qr}:∀{ks:List Zn}{us:List Qb},Vals (ks.map kV) us->ItemsAre (ZQ P w) ks us
 | [],_,r=>by rw [Sk] at r;cases r;exact .nil
 | k::ks,_,r=>by
  rw [map_cons] at r
  cases r with
  | cons h t=>exact .cons (ZaM h) (ZbR t)
abbrev KT (H:Hp):List (List Zn×V)->List (List Zn×Addr×Qb)->Prop:=Tn fun p q=>p.1=q.1/\H q.2.1=some (.tup (p.1.map kV))/\RelV p.2 q.2.2
theorem KT.val {H:Hp}{kvs:List (List Zn×V)}{xs:List (List Zn×Addr×Qb)}(r:KT H kvs xs)(k:List Zn):RelO (ZS kvs k) ((atKey xs k).map (·.2)):=by
 induction r with
 | nil=>exact Gn
 | @cons p q ps qs h t ih =>
  obtain ⟨h1,_,h2⟩:=h
  by_cases e:p.1=k
  ·have B:q.1=k:=h1.symm.trans e
   have b:atKey (q::qs) k=some q.2:=by simp [atKey,find?_cons,B]
   rw [YE e,b];exact h2
  ·have B:¬ q.1=k:=fun z=>e (h1.trans z)
   have b:atKey (q::qs) k=atKey qs k:=by simp [atKey,find?_cons,B]
   rw [YF e,b];exact ih
theorem KT.repl {H:Hp}{kvs:List (List Zn×V)}{xs:List (List Zn×Addr×Qb)}(r:KT H kvs xs)(k:List Zn){y:V}{u:Qb}(I:RelV y u) :
 KT H (kvs.map fun B=>if B.1=k then (B.1,y) else B) (xs.map (putAt k u)):=by
 induction r with
 | nil=>exact .nil
 | @cons p q ps qs h t ih =>
  rw [map_cons,map_cons]
  refine .cons ?_ ih
  obtain ⟨h1,h2,G⟩:=h
  unfold putAt
  by_cases e:p.1=k
  ·rw [if_pos e,if_pos (h1.symm.trans e)];exact ⟨h1,h2,I⟩
  ·rw [if_neg e,if_neg (fun z=>e (h1.trans z))];exact ⟨h1,h2,G⟩
theorem KT.put {H:Hp}{kvs:List (List Zn×V)}{xs:List (List Zn×Addr×Qb)}(r:KT H kvs xs)(k:List Zn){b:Addr}{y:V}{u:Qb}(G:H b=some (.tup (k.map kV)))(z:RelV y u) :
 KT H (YI kvs k y) (storedH xs k b u):=by
 have e:(kvs.any fun B=>decide (B.1=k))=(atKey xs k).isSome:=by
  rw [UX,(r.val k).isSome_eq,Oi]
 unfold YI storedH
 rw [e]
 by_cases q:(atKey xs k).isSome=true
 ·rw [if_pos q,if_pos q];exact r.repl k z
 ·rw [if_neg q,if_neg q];exact Paired.snoc r ⟨rfl,G,z⟩
theorem KT.keeps {H H':Hp}{kvs:List (List Zn×V)}{xs:List (List Zn×Addr×Qb)}(r:KT H kvs xs)(B:∀ b ys,H b=some (.tup ys)->H' b=some (.tup ys)):KT H' kvs xs :=
 Tn.mapP r fun _ _ z=>⟨z.1,B _ _ z.2.1,z.2.2⟩
section
variable {P:Qj}{w:Qr}{H:Hp}{h:Heap}{a:Addr}
theorem Zju {u:HO}(ok:HOk P w H h)(e:Rd H a u):ObjOk P w H h a u:=e.ok ok
theorem Zcn {kvs:List (Zn×V)}(ok:HOk P w H h)(e:Rd H a (.dK kvs)):kvs.length<=Qh/\(a == GO)=false/\∃ vs,KV kvs vs/\h.DictOf (ZQ P w) a vs :=
 show ObjOk P w H h a (.dK kvs) from Zju ok e
theorem Zck {kvs:List (Zn×V)}(ok:HOk P w H h)(e:H a=some (.dK kvs)):kvs.length<=Qh/\(a == GO)=false/\∃ vs,KV kvs vs/\h.DictOf (ZQ P w) a vs:=Zcn ok (.inl e)
theorem ZaJ {ks:List Zn}(ok:HOk P w H h)(e:H a=some (.tup (ks.map kV))):(Tz (ZQ P w)).is h ks a:=by
 obtain ⟨_,z,r,o,h1,h2,n,B⟩:=(show ObjOk P w H h a (.tup (ks.map kV)) from ok a _ e)
 exact ⟨o,z.toArray,n,h1,h2,B,by simpa using ZbR r⟩
theorem Zcs {kvs:List (List Zn×V)}(ok:HOk P w H h)(e:Rd H a (.dT kvs)):kvs.length<=Qh/\(a == GO)=false /\
 ∃ xs,KT H kvs xs/\h.DictOfH (Tz (ZQ P w)) a xs:=by
 obtain ⟨z,y,xs,r,o,es,ep,h1,h2,G,B,I⟩:=(show ObjOk P w H h a (.dT kvs) from Zju ok e)
 refine ⟨z,y,xs,r,o,es,ep,h1,h2,G,B,fun x hx=>?_,I⟩
 have all:∀ {l:List (List Zn×V)} {m:List (List Zn×Addr×Qb)},KT H l m->∀ x∈m,(Tz (ZQ P w)).is h x.1 x.2.1:=by
  intro l m q
  induction q with
  | nil=>intro x hx;exact nomatch hx
  | @cons p q ps qs hq t ih =>
   intro x hx
   rcases mem_cons.mp hx with e | hx
   ·subst e
    exact ZaJ ok (by rw [<- hq.1];exact hq.2.1)
   ·exact ih x hx
 exact all r x hx
theorem ZmH {kvs:List (List Zn×V)}(ok:HOk P w H h)(e:H a=some (.dT kvs)):kvs.length<=Qh/\(a == GO)=false /\
 ∃ xs,KT H kvs xs/\h.DictOfH (Tz (ZQ P w)) a xs:=Zcs ok (.inl e)
end
def DGet (H:Hp)(a:Addr)(y:V)(r:Option V):Prop :=
 (∃ kvs k,Rd H a (.dK kvs)/\y=kV k/\r=ZS kvs k)\/∃ kvs k b,Rd H a (.dT kvs)/\y=.ref b/\H b=some (.tup (k.map kV))/\r=ZS kvs k
def DPut (H:Hp)(a:Addr)(y v:V)(H':Hp):Prop :=
 (∃ kvs k,H a=some (.dK kvs)/\y=kV k/\kvs.length < Qh/\H'=upd H a (.dK (YI kvs k v))) \/
 ∃ kvs k b,H a=some (.dT kvs)/\y=.ref b/\H b=some (.tup (k.map kV))/\kvs.length < Qh/\H'=upd H a (.dT (YI kvs k v))
theorem DGet.k {H:Hp}{a:Addr}{kvs:List (Zn×V)}{k:Zn}(e:H a=some (.dK kvs)):DGet H a (kV k) (ZS kvs k):=.inl ⟨kvs,k,.inl e,rfl,rfl⟩
theorem DPut.k {H:Hp}{a:Addr}{kvs:List (Zn×V)}{k:Zn}{v:V}(e:H a=some (.dK kvs))(z:kvs.length < Qh):DPut H a (kV k) v (upd H a (.dK (YI kvs k v))):=.inl ⟨kvs,k,e,rfl,z,rfl⟩
section
variable {X:Cx}{pins:List (Addr×Obj)}{σ:St}{H:Hp}{s:Qd}{a:Addr}{y v:V}{u r:Qb}{o:Option V}{A:QG}{E:Qb->Qd->Prop}
theorem Inv.big (I:Inv X pins σ H s):GO < s.heap.objs.size:=by
 have h:Qk < s.heap.objs.size:=(I.mod.glob.keeps I.bk).lt
 exact Nat.lt_trans (by decide) h
theorem ZjJ {Q:Qb->Qd->Prop}(Y:A.units+1 < cLine)(I:Inv X pins σ H s)(g:DGet H a y o)(S:RelV y u)(h:∀ s',Inv X pins σ H s'->Q (.bool (!o.isSome)) s') :
 Qp (Qs X.prog X.w) A (Gu .NotIn u (.ref a)) Q E s:=by
 rcases g with ⟨kvs,k,e,G,l⟩ | ⟨kvs,k,b,e,G,W,l⟩
 ·subst G
  obtain ⟨z,J,vs,B,dd⟩:=Zcn I.hok e
  refine wpAny_notIn_of (ZaM S) J dd.mapOf ?_
  rw [<- (B.val k).isSome_eq,<- l]
  exact h _ (I.tok _)
 ·subst G
  cases (show u=Ql b from S)
  obtain ⟨z,J,xs,B,dd⟩:=Zcs I.hok e
  refine wpAny_notIn_heap (PU Y) (ZaJ I.hok W) J dd ?_
  have q:=(B.val k).isSome_eq
  rw [Oi] at q
  rw [<- q,<- l]
  exact h _ (I.tok _)
theorem Zbn {h':Heap}{t':Nat}{B:HO}(I:Inv X pins σ H s)(W:Mut (H a))(G:Sd a s.heap h')(S:∃ q,h'.get? a=some q)(new:ObjOk X.prog X.w (upd H a B) h' a B) :
 Inv X pins σ (upd H a B) { s with heap:=h',toks:=t' } :=
 I.write (x:=a) (e:=a) W (.inl rfl) (fun b q J z=>(G.2 b J).trans z) S new
theorem ZgG {P:Qj}{w:Qr}{H':Hp}{h':Heap}{kvs:List (Zn×V)}{vs:List (Zn×Qb)}(z:kvs.length<=Qh)(G:(a == GO)=false)(B:KV kvs vs)(dd:h'.DictOf (ZQ P w) a vs) :
 ObjOk P w H' h' a (.dK kvs):=⟨z,G,vs,B,dd⟩
theorem ZgB {H':Hp}{Q:Unit->Qd->Prop}(hu:A.units+1 < cLine)(I:Inv X pins σ H s)(g:DPut H a y v H')(ry:RelV y u)(rv:RelV v r)(h:∀ s',Inv X pins σ H' s'->Q () s') :
 Qp (Qs X.prog X.w) A (setItem (.ref a) u r) Q E s:=by
 rcases g with ⟨kvs,k,e,ey,l,Z⟩ | ⟨kvs,k,b,e,ey,eb,l,Z⟩
 ·subst ey Z
  obtain ⟨z,hd,vs,B,dd⟩:=Zck I.hok e
  have W:vs.length<=sizeLine:=by rw [<- B.length];exact z
  have S:(YI kvs k v).length<=sizeLine:=by have:=XB kvs k v;omega
  refine wpAny_setItem_pairs (hsz:=W) (ZaM ry) dd fun h' G Y=>h _ ?_
  have he:∃ q,h'.get? a=some q:=let ⟨q,_,_,J,_⟩:=G;⟨q,J⟩
  exact Zbn I (by rw [e];exact Gn) Y he (ZgG S hd (B.put k rv) G)
 ·subst ey Z
  cases (show u=Ql b from ry)
  obtain ⟨z,hd,xs,B,dd⟩:=ZmH I.hok e
  have W:xs.length<=sizeLine:=by rw [<- JZ B];exact z
  have S:(YI kvs k v).length<=sizeLine:=by have:=XB kvs k v;omega
  refine wpAny_setItem_heap (hsz:=W) (PU hu) (ZaJ I.hok eb) dd fun h' G Y=>h _ ?_
  obtain ⟨q,es,ep,J,h2,h3,h4,_,h5⟩:=G
  refine Zbn I (by rw [e];exact Gn) Y ⟨q,J⟩ ⟨S,hd,_,(B.put k eb rv).keeps fun c ys ec=>?_,q,es,ep,J,h2,h3,h4,h5⟩
  rw [Zi (ZaA ec e (fun z=>nomatch z))]
  exact ec
end
section
variable {X:Cx}{pins:List (Addr×Obj)}{σ:St}{H:Hp}{s:Qd}{a:Addr}{kvs:List (Zn×V)}{k:Zn}{u:Qb}{A:QG}{E:Qb->Qd->Prop}
end
def Zku (ty td:TE):TE:=fun σ H Q=>ty σ H fun y H1=>td σ H1 fun x H2=>∃ a o,x=.ref a/\DGet H2 a y o/\Q (.bl (!o.isSome)) H2
def ZmP (td ty tv:TE):TS:=fun D σ H=>tv σ H fun v H1=>td σ H1 fun x H2=>ty σ H2 fun y H3=>∃ a H4,x=.ref a/\DPut H3 a y v H4/\D.nx σ H4
section
variable {X:Cx}{o i e value:Expr}{pos pos' tpos:Pos}{td ty tv:TE}
theorem Zgr (hu:X.A.units+1 < cLine)(hi:PE X i ty)(z:PE X o td):PC X .NotIn i o (Zku ty td):=by
 intro pins s σ H Q I h
 refine Zu (hi pins s σ H _ I h) fun iv s1 ⟨y,H1,Z,W,S⟩=>Zu (z pins s1 σ H1 _ Z S) fun u s2 ⟨x,H2,G,J,a,B,ex,g,q2⟩=>?_
 subst ex
 obtain rfl:u=Ql a:=J
 exact ZjJ hu G g W fun s3 Y=>⟨.bl (!B.isSome),H2,Y,rfl,q2⟩
theorem Zer (hu:X.A.units+1 < cLine)(ho:PE X o td)(hi:PE X i ty)(hv:PE X value tv)(hs:JA value (some (.Subscript o i pos')) pos.line X.env=pure false) :
 PS X (.Assign [.Subscript o i pos'] value pos) (ZmP td ty tv):=by
 intro pins s σ H D I h
 refine wpAny_Assign_Subscript (Zu (hv pins s σ H _ I h) fun r s1 ⟨v,H1,J,rv,Y⟩=>Zu (ho pins s1 σ H1 _ J Y) fun u s2 ⟨x,H2,I2,z,W⟩=>Zu (hi pins s2 σ H2 _ I2 W) fun iv s3 ⟨y,H3,G,Z,a,S,ex,g,q3⟩=>?_) hs
 subst ex
 obtain rfl:u=Ql a:=z
 exact ZgB hu G g Z rv fun s4 B=>⟨σ,S,B,q3⟩
end
theorem Ziu {P:Qj}{w:Qr}{H:Hp}(h:Heap)(z:GO < h.objs.size):ObjOk P w H (h.push { cls:=.type "dict",data:=.dict #[] }) h.objs.size (.dK []) :=
 ⟨QF _,beq_eq_false_iff_ne.mpr (Gg (Qq z)),[],.nil,Nb h⟩
section
variable {X:Cx}{pos:Pos}
end
def Zdt:List (TE×TE)->St->Hp->(List (V×V)->Hp->Prop)->Prop
 | [],_,H,Q=>Q [] H
 | (tk,tv)::r,σ,H,Q=>tk σ H fun x H1=>tv σ H1 fun y H2=>Zdt r σ H2 fun ps H3=>Q ((x,y)::ps) H3
abbrev VV:List (V×V)->List (Qb×Qb)->Prop:=Tn fun p q=>RelV p.1 q.1/\RelV p.2 q.2
def PPs (X:Cx)(pos:Pos)(keys:List (Option Expr))(values:List Expr)(trs:List (TE×TE)):Prop :=
 ∀ (pins:List (Addr×Obj)) (s:Qd) (σ:St) (H:Hp) (Q:List (V×V)->Hp->Prop),Inv X pins σ H s->Zdt trs σ H Q ->
  Qp (Qs X.prog X.w) X.A (evalPairs (pairTrees keys values X.env pos)) (fun vs s'=>∃ ps H',Inv X pins σ H' s'/\VV ps vs/\Q ps H') X.xe s
theorem Zko {X:Cx}{pos:Pos}:PPs X pos [] [] []:=fun pins s σ H Q I h=>pairTrees_nil_walk ⟨[],H,I,.nil,h⟩
theorem Zix {X:Cx}{pos:Pos}{k v:Expr}{ks:List (Option Expr)}{vs:List Expr}{tk tv:TE}{z:List (TE×TE)}(hk:PE X k tk)(hv:PE X v tv)(Y:PPs X pos ks vs z) :
 PPs X pos (some k::ks) (v::vs) ((tk,tv)::z):=fun pins s σ H Q I h =>
 pairTrees_cons_walk (Zu (hk pins s σ H _ I h) fun u s1 ⟨x,H1,I1,J,S⟩=>Zu (hv pins s1 σ H1 _ I1 S) fun w2 s2 ⟨y,H2,G,W,q2⟩ =>
  Zu (Y pins s2 σ H2 _ G q2) fun ws s3 ⟨ps,Z,I3,B,q3⟩=>⟨(x,y)::ps,Z,I3,.cons ⟨J,W⟩ B,q3⟩)
def Vr (kvs more:List (Zn×V)):List (Zn×V):=more.foldl (fun acc kv=>YI acc kv.1 kv.2) kvs
theorem KV.merge:∀{z:List (Zn×V)}{B:List (Zn×Qb)}{kvs:List (Zn×V)}{vs:List (Zn×Qb)},KV z B->KV kvs vs->KV (Vr kvs z) (merged vs B):=by
 intro z B kvs vs r
 unfold KV at r
 induction r generalizing kvs vs with
 | nil=>intro q;exact q
 | @cons p q ps qs h t ih =>
  intro G
  have e:KV (YI kvs p.1 p.2) (stored vs q.1 q.2):=by
   have:=G.put p.1 h.2
   rw [<- h.1];exact this
  exact ih e
theorem Vg:∀(z kvs:List (Zn×V)),(Vr kvs z).length<=kvs.length+z.length
 | [],kvs=>by show kvs.length<=kvs.length+0;omega
 | p::r,kvs=>by
  have h1:=Vg r (YI kvs p.1 p.2)
  have h2:=XB kvs p.1 p.2
  show (Vr (YI kvs p.1 p.2) r).length<=_
  rw [length_cons];omega
theorem Zbd {P:Qj}{w:Qr}:∀{kvs:List (Zn×V)}{G:List (Qb×Qb)},VV (kvs.map fun B=>(kV B.1,B.2)) G->∃ z,Carries (ZQ P w) G z/\KV kvs z
 | [],_,r=>by rw [Sk] at r;cases r;exact ⟨[],Gn,.nil⟩
 | p :: kvs,_,r=>by
  rw [map_cons] at r
  cases r with
  | @cons a b as bs h t =>
   obtain ⟨z,c,q⟩:=Zbd (P:=P) (w:=w) t
   obtain ⟨b1,b2⟩:=b
   exact ⟨(p.1,b2)::z,⟨ZaM h.1,rfl,c⟩,.cons ⟨rfl,h.2⟩ q⟩
def ZmW (trs:List (TE×TE)):TE:=fun σ H Q=>∀ p,H p=none->Zdt trs σ (upd H p (.dK [])) fun ps H2=>H2 p=some (.dK [])/\∃ kvs:List (Zn×V),ps=kvs.map (fun kv=>(kV kv.1,kv.2))/\kvs.length<=15/\Q (.ref p) (upd H2 p (.dK (Vr [] kvs)))
theorem Zkz {X:Cx}{pos:Pos}{keys:List (Option Expr)}{B:List Expr}{J:List (TE×TE)}(h:PPs X pos keys B J)(S:keys.all (·.isSome)=true)(hl:keys.length=B.length)(h0:keys≠[])
 (Y:keys.length<=15):PE X (.Dict keys B pos) (ZmW J):=by
 intro pins s σ H Q I q
 have hn:=I.hok.fresh (Qg s.heap.objs.size)
 have I1:=I.laid (a:=s.heap.objs.size) (o:=.dK []) (h':=s.heap.push { cls:=.type "dict",data:=.dict #[] }) (t':=s.toks) (fun _ _ q=>Qc _ q) (Qg _) (Ziu s.heap I.big)
 refine wpAny_Dict_walk (knd:=ZQ X.prog X.w) S hl h0 Y (Zu (h pins _ σ _ _ I1 (q _ hn)) fun ws s2 ⟨ps,H2,Z,W,e,kvs,ep,lk,q2⟩=>?_)
 subst ep
 obtain ⟨rs,c,rk⟩:=Zbd (P:=X.prog) (w:=X.w) W
 obtain ⟨z,hd,vs0,r0,dd⟩:=Zck Z.hok e
 cases r0
 refine ⟨rs,c,dd,fun h' G hs=>⟨.ref s.heap.objs.size,_,?_,rfl,q2⟩⟩
 have hz:(Vr [] kvs).length<=sizeLine:=by
  have h1:=Vg kvs []
  rw [Pr] at h1
  rw [QZ];omega
 have he:∃ q,h'.get? s.heap.objs.size=some q:=let ⟨q,_,_,hq,_⟩:=G;⟨q,hq⟩
 exact Zbn Z (by rw [e];exact Gn) hs he (ZgG hz hd (rk.merge .nil) G)
structure M1 (X:Cx)(o:Expr)(m:Str)(apos:Pos)(e:Expr)(cpos:Pos):Prop where
 base:Jv o m X.env (eval o X.env)=eval o X.env
 few:((GP cpos (Qz [e] X.env)).all (fun x=>!x.1)&&(Pf cpos (GX [] X.env)).all (fun x=>x.1.isSome)
  && decide (([e]:List Expr).length+([]:List Oc).length+(if ([]:List Oc).isEmpty then 0 else 1) < 30))=true
 line:(apos.endLine == cpos.line)=true
 trees:GP cpos (Qz [e] X.env)=[(false,eval e X.env)]
def IsD (H:Hp)(a:Addr):Prop:=(∃ kvs,Rd H a (.dK kvs))\/∃ kvs,Rd H a (.dT kvs)
theorem Zlu {X:Cx}{pins:List (Addr×Obj)}{σ:St}{H:Hp}{s:Qd}{a:Addr}(I:Inv X pins σ H s)(d:IsD H a) :
 s.TypeIs (.ref a) "dict"/\(∀ b,Ql a=.ref b->∃ z,s.heap.get? b=some z/\z.dict=none)/\(a == GO)=false:=by
 rcases d with ⟨kvs,e⟩ | ⟨kvs,e⟩
 ·obtain ⟨_,B,vs,_,dd⟩:=Zcn I.hok e
  refine ⟨dd.typeIs,fun b q=>?_,B⟩
  cases q
  obtain ⟨z,_,_,h1,h2,_⟩:=dd
  exact ⟨z,h1,h2.2.1⟩
 ·obtain ⟨_,B,xs,_,dd⟩:=Zcs I.hok e
  refine ⟨dd.typeIs,fun b q=>?_,B⟩
  cases q
  obtain ⟨z,_,_,h1,h2,_⟩:=dd
  exact ⟨z,h1,h2.2.1⟩
section
variable {X:Cx}{pins:List (Addr×Obj)}{σ:St}{H:Hp}{s:Qd}{a:Addr}{y d:V}{u r:Qb}{o:Option V}{A:QG}{E:Qb->Qd->Prop}
theorem ZlO {Q:Qb->Qd->Prop}(Z:A.units+1 < cLine)(I:Inv X pins σ H s)(g:DGet H a y o)(W:RelV y u)(h:∀ S s',Inv X pins σ H s'->RelV (o.getD .non) S->Q S s') :
 Qp (Qs X.prog X.w) A (call (.builtin "dict.get") [.ref a,u]) Q E s:=by
 rcases g with ⟨kvs,k,e,G,l⟩ | ⟨kvs,k,b,e,G,Y,l⟩
 ·subst G
  obtain ⟨z,J,vs,B,dd⟩:=Zcn I.hok e
  refine Oj JT dd.typeIs Sl (TL _ _) (meets_dict_get (ZQ X.prog X.w) a (ZaM W) J) ⟨_,dd.mapOf,h _ _ (I.tok _) ?_⟩
  rw [l]
  exact (B.val k).getD rfl
 ·subst G
  cases (show u=Ql b from W)
  obtain ⟨z,J,xs,B,dd⟩:=Zcs I.hok e
  refine Oj JT dd.typeIs Sl (TL _ _) (meetsH_dict_get (Tz (ZQ X.prog X.w)) a b J) ⟨PU Z,k,xs,ZaJ I.hok Y,dd,h _ _ (I.tok _) ?_⟩
  rw [l]
  exact (B.val k).getD rfl
end
def Zlv (td ty:TE):TE:=fun σ H Q=>td σ H fun x H1=>∃ a,x=.ref a/\IsD H1 a/\ty σ H1 fun y H2=>∃ o,DGet H2 a y o/\Q (o.getD .non) H2
section
variable {X:Cx}{o e f:Expr}{apos cpos:Pos}{td ty tx:TE}
theorem Zip (hu:X.A.units+1 < cLine)(G:PE X o td)(he:PE X e ty)(m:M1 X o "get" apos e cpos):PE X (.Call (.Attribute o "get" apos) [e] [] cpos) (Zlv td ty):=by
 intro pins s σ H Q I h
 refine wpAny_Call_method m.base m.few m.line TM JT PySem.F.type_dict_get (Zu (G pins s σ H _ I h) fun u s1 ⟨x,H1,B,S,a,ex,d,W⟩=>?_)
 subst ex
 obtain rfl:u=Ql a:=S
 obtain ⟨t1,t2,_⟩:=Zlu B d
 refine ⟨t1,t2,?_⟩
 rw [m.trees]
 refine JI rfl (SO (RD (Zu (he pins s1 σ H1 _ B W) fun iv s2 ⟨y,H2,J,Y,ov,g,q2⟩=>Ob ?_)))
 exact ZlO hu J g Y fun w' s3 Z z=>⟨_,H2,Z,z,q2⟩
end
section
variable {X:Cx}{pins:List (Addr×Obj)}{σ:St}{H:Hp}{s:Qd}{a:Addr}{kvs:List (Zn×V)}{A:QG}{E:Qb->Qd->Prop}
end
section
variable {X:Cx}{pins:List (Addr×Obj)}{σ:St}{H:Hp}{s:Qd}{a:Addr}{y:V}{u:Qb}{A:QG}{E:Qb->Qd->Prop}
end
section
variable {κ:Type}[DecidableEq κ]
end
theorem VB {env:Env}(y:Str):∀ z:List (Str×Pg),
 (z.map fun (n,k)=>if (k == Je&&env.scope.kind == .function&&env.kindOf n == some .cell) then (n,NameKind.cell) else (n,k)).lookup y =
  (z.lookup y).map fun k=>if (k == Je&&env.scope.kind == .function&&env.kindOf y == some .cell) then NameKind.cell else k
 | []=>rfl
 | (n, k)::r=>by
  have G:=VB (env:=env) y r
  rw [map_cons]
  cases hx:y == n with
  | true =>
   have e:y=n:=by simpa using hx
   subst e
   by_cases B:(k == Je&&env.scope.kind == .function&&env.kindOf y == some .cell)=true
   ·simp only [B,if_true,lookup_cons,beq_self_eq_true,GH]
   ·simp only [B,lookup_cons,beq_self_eq_true,GH]
    simp [B]
  | false =>
   by_cases B:(k == Je&&env.scope.kind == .function&&env.kindOf n == some .cell)=true
   ·simp only [B,if_true,lookup_cons,hx];exact G
   ·simp only [B,lookup_cons,hx,GD,if_false];exact G
theorem YJ {scope:Scope}{env:Env}{y:Str}{k:Pg}(G:∀ z∈scope.names,z.2≠.cell)(h:(relabel scope env).names.lookup y=some k) :
 scope.names.lookup y=some k\/(scope.names.lookup y=some .free/\k=.cell):=by
 unfold relabel at h
 rw [VB] at h
 cases e:scope.names.lookup y with
 | none=>rw [e] at h;cases h
 | some k0 =>
  rw [e] at h
  simp only [GH,Option.some.injEq] at h
  by_cases B:(k0 == Je&&env.scope.kind == .function&&env.kindOf y == some .cell)=true
  ·rw [if_pos B] at h
   right
   simp only [QM,beq_iff_eq] at B
   exact ⟨by rw [B.1.1],h.symm⟩
  ·rw [if_neg B] at h
   left;rw [h]
theorem mem_of_lookup {B:Type}{y:Str}{k:B}:∀{l:List (Str×B)},l.lookup y=some k->(y,k)∈l
 | [],h=>by cases h
 | (n,z)::r,h=>by
  cases hx:y == n with
  | true =>
   have e:y=n:=by simpa using hx
   subst e
   simp only [lookup_cons,beq_self_eq_true] at h
   cases h
   exact mem_cons_self
  | false =>
   simp only [lookup_cons,hx] at h
   exact mem_cons_of_mem _ (mem_of_lookup h)
theorem Va {env:Env}:∀(z:List (Str×Pg))(G:List (Str×Addr)),(∀ y∈z,y.2=.free->∃ c,env.cells.lookup y.1=some c) ->
 ∃ B:List (Str×Addr),(forIn z G fun (x:Str×Pg) (r:List (Str×Addr))=>(if x.2 == Je then (do let a <- cellOf env x.1;pure (Jd ((x.1,a)::r))) else pure (Jd r):Sem (ForInStep (List (Str×Addr)))))=pure B /\
  (∀ y c,B.lookup y=some c->G.lookup y=some c\/env.cells.lookup y=some c)/\(∀ y,G.lookup y≠none->B.lookup y≠none)/\∀ y∈z,y.2=.free->B.lookup y.1≠none
 | [],G,_=>⟨G,rfl,fun _ _ h=>.inl h,fun _ h=>h,fun _ h=>(nomatch h)⟩
 | (n, k)::r,G,h=>by
  by_cases hk:k=.free
  ·subst hk
   obtain ⟨c,hc⟩:=h (n,.free) mem_cons_self rfl
   obtain ⟨B,e,Y,S,Z⟩:=Va r ((n,c)::G) fun y hy=>h y (mem_cons_of_mem _ hy)
   refine ⟨B,?_,?_,?_,?_⟩
   ·rw [Nc]
    have I:cellOf env n=pure c:=by unfold cellOf;rw [hc]
    simp only [beq_self_eq_true,if_true,I,pure_bind]
    exact e
   ·intro y d q
    rcases Y y d q with q | q
    ·cases hx:y == n with
     | true =>
      have J:y=n:=by simpa using hx
      subst J
      simp only [lookup_cons,beq_self_eq_true] at q
      cases q
      exact .inr hc
     | false=>simp only [lookup_cons,hx] at q;exact .inl q
    ·exact .inr q
   ·intro y q
    apply S
    cases hx:y == n with
    | true=>simp [lookup_cons,hx]
    | false=>simpa [lookup_cons,hx] using q
   ·intro y hy W
    rcases mem_cons.mp hy with J | hy
    ·subst J
     apply S
     simp [lookup_cons]
    ·exact Z y hy W
  ·obtain ⟨B,e,Y,S,Z⟩:=Va r G fun y hy=>h y (mem_cons_of_mem _ hy)
   refine ⟨B,?_,Y,S,?_⟩
   ·rw [Nc]
    have hb:(k == Je)=false:=by simpa using hk
    simp only [hb,GD,if_false,pure_bind]
    exact e
   ·intro y hy W
    rcases mem_cons.mp hy with J | hy
    ·subst J;exact absurd W hk
    ·exact Z y hy W
theorem ZaX {scope:Scope}{env:Env}(h:∀ y∈scope.names,y.2=.free->∃ c,env.cells.lookup y.1=some c) :
 ∃ B,closureFor scope env=pure B/\(∀ y c,B.lookup y=some c->env.cells.lookup y=some c)/\∀ y∈scope.names,y.2=.free->B.lookup y.1≠none:=by
 obtain ⟨B,e,I,_,G⟩:=Va (env:=env) scope.names [] h
 refine ⟨B,?_,fun y c q=>(I y c q).elim (fun z=>by cases z) fun z=>z,G⟩
 simp only [closureFor]
 rw [<- bind_pure (pure B:Sem _),<- e]
def Uw (N xs:List Str):List Str:=N.map fun y=>if y∈xs then "" else y
theorem VY (N xs:List Str):(Uw N xs).length=N.length:=length_map ..
theorem Zik {N xs:List Str}{y:Str}{i:Nat}(h:(Uw N xs)[i]?=some y):(N[i]?=some y/\y ∉ xs)\/y="":=by
 unfold Uw at h
 rw [getElem?_map] at h
 cases e:N[i]? with
 | none=>rw [e] at h;cases h
 | some z =>
  rw [e] at h
  have h:(if z∈xs then ("":Str) else z)=y:=Qv h
  by_cases q:z∈xs
  ·rw [if_pos q] at h;exact .inr h.symm
  ·rw [if_neg q] at h;subst h;exact .inl ⟨rfl,q⟩
abbrev ZfK (N:List Str)(xa xb:Str):List Str:=Uw N [xa,xb]
def Yk (X:Cx)(scope:Scope)(xs:List Str)(cl:List (Str×Addr))(C:Addr)(s₀:Qd)(H₀:Hp)(fp:List Addr):Cx :=
 {prog:=X.prog,w:=X.w,K:=X.K,mg:=X.mg,base:=X.base,A:=X.A,N:=Uw X.N xs++xs,s₀:=s₀,H₀:=H₀,env:=compEnvC scope cl C X.env,outer:=X.stack,stack:=X.stack,
  ex:=fp,fn:=fun _=>false,calm:=X.calm,pn:=[],xe:=fun _ _=>False }
abbrev ZaB (X:Cx)(scope:Scope)(x:Str):=Yk X scope [x]
abbrev WN (X:Cx)(scope:Scope)(xa xb:Str):=Yk X scope [xa,xb]
structure CompOkN (X:Cx)(scope:Scope)(xs:List Str):Prop where
 nd:(Uw X.N xs++xs).Nodup
 clos:∀ y∈scope.names,y.2=.free->X.env.kindOf y.1=some .cell\/X.env.kindOf y.1=some .free
 cell:∀ y∈scope.names,y.2≠.cell
 kind:scope.kind=.function
 names:∀ y∈scope.names,y.2=.local->scope.names.lookup y.1=some .local
 loc:∀ x∈xs,scope.names.lookup x=some .local
 own:∀ y∈X.N,y ∉ xs->scope.names.lookup y≠some .local
 noh:scope.names.lookup ("":Str)=none
abbrev CompOk (X:Cx)(scope:Scope)(x:Str):=CompOkN X scope [x]
abbrev CompOkT (X:Cx)(scope:Scope)(xa xb:Str):=CompOkN X scope [xa,xb]
def UT (N:List Str)(names:List (Str×Pg))(scope:Scope)(xs:List Str):Bool :=
 decide ((Uw N xs++xs).Nodup)&&scope.names.all (fun y=>(y.2 != .free || names.lookup y.1 == some .cell || names.lookup y.1 == some .free)&&(y.2 != .cell&&(y.2 != .local || scope.names.lookup y.1 == some .local))) &&
 ((scope.kind == .function&&xs.all fun x=>scope.names.lookup x == some .local)&&N.all fun y=>decide (y∈xs) || scope.names.lookup y != some .local)&&scope.names.lookup ("":Str) == none
theorem CompOkN.of {X:Cx}{scope:Scope}{xs:List Str}(N:List Str)(st:Stmt)(J:X.N=N)(hn:X.env.scope=Zj st)(G:UT N (Zj st).names scope xs=true):CompOkN X scope xs:=by
 unfold UT at G
 simp only [QM,decide_eq_true_eq,all_eq_true,Bool.or_eq_true,bne_iff_ne,beq_iff_eq] at G
 obtain ⟨⟨⟨c1,I⟩,⟨Y,S⟩,Z⟩,c6⟩:=G
 refine ⟨by rw [J];exact c1,fun y B hf=>?_,fun y B=>(I y B).2.1,Y,fun y B W=>?_,S,fun y B hx=>(Z y (by rw [<- J];exact B)).resolve_left hx,c6⟩
 ·show X.env.scope.names.lookup y.1=_\/X.env.scope.names.lookup y.1=_
  rw [hn]
  rcases (I y B).1 with (z | z) | z
  ·exact absurd hf z
  ·exact .inl z
  ·exact .inr z
 ·rcases (I y B).2.2 with z | z
  ·exact absurd W z
  ·exact z
theorem CompOk.of {X:Cx}{scope:Scope}{x:Str}(N:List Str)(st:Stmt)(G:X.N=N)(B:X.env.scope=Zj st)(z:UT N (Zj st).names scope [x]=true):CompOk X scope x:=CompOkN.of N st G B z
theorem CompOkT.of {X:Cx}{scope:Scope}{xa xb:Str}(N:List Str)(st:Stmt)(G:X.N=N)(B:X.env.scope=Zj st)(z:UT N (Zj st).names scope [xa,xb]=true):CompOkT X scope xa xb:=CompOkN.of N st G B z
def tYes:TT:=fun _ H k=>k true H
def PCs (X:Cx)(cs:List Expr)(tc:TT):Prop:=(cs=[]/\tc=tYes)\/∃ c,cs=[c]/\PT X c tc
def VI (J:It)(g:TG)(tc:TT)(te:TE)(n:Nat)(OK:St->St->Prop)(σ:St)(D:Addr)(Q:VK)(H1:Hp):Prop :=
 ∃ W : Nat->Nat->List V->Hp->Prop,(∃ m,W 0 m [] (upd H1 D (.lst [])))/\∀ i m ys H2,W i m ys H2 ->
  (J.stop i H2/\Q (.ref D) H2)\/(J.go i H2/\∃ (N:VK) (M:Hp->Prop),(∀ y H4,N y H4->H4 D=some (.lst ys)/\ys.length < Qh/\∃ m',m' < m/\W (i+1) m' (ys++[y]) (upd H4 D (.lst (ys++[y]))))/\(∀ H4,M H4->∃ m',m' < m/\W (i+1) m' ys H4) /\
   ∀ ws v H3,ws.length=n->J.yld i H2 v H3->g v (σ++ws) H3 fun σ' H'=>OK σ σ'/\tc σ' H' fun b H4=>if b=true then te σ' H4 N else M H4)
def tCW (wi:TI)(CW:It->St->Addr->VK->Hp->Prop):TE:=fun σ H Q=>wi σ H fun J H1=>∀ D,H1 D=none->CW J σ D Q H1
def CompW (J:It)(te:TE)(σ:St)(D:Addr)(Q:VK)(H1:Hp):Prop :=
 ∃ W:Nat->Nat->List V->Hp->Prop,(∃ m,W 0 m [] (upd H1 D (.lst [])))/\∀ i m ys H2,W i m ys H2 ->
  (J.stop i H2/\Q (.ref D) H2)\/(J.go i H2/\∃ N:VK,(∀ y H4,N y H4->H4 D=some (.lst ys)/\ys.length < Qh/\∃ m',m' < m/\W (i+1) m' (ys++[y]) (upd H4 D (.lst (ys++[y]))))/\∀ v H3,J.yld i H2 v H3->te (σ++[some v]) H3 N)
def Zjw (wi:TI)(te:TE):TE:=fun σ H Q=>wi σ H fun J H1=>∀ D,H1 D=none->CompW J te σ D Q H1
section
variable {X:Cx}{elt iter tg:Expr}{cs:List Expr}{xs:List Str}{pos:Pos}{scope:Scope}{wi:TI}{te:TE}{tc:TT}{g:TG}{OK:St->St->Prop}{CW:It->St->Addr->VK->Hp->Prop}
theorem UJ {prog:Qj}{w:Qr}{A:QG}{R:RC->Qd->Prop}{s:Qd}{elt z iter:Expr}{cs:List Expr}{scope:Scope}{pos:Pos}{it Z:Qb}{env:Env}(I:Nat->Qd->Prop)
   (turn : ∀ n s,I n s->Qp (Qs prog w) A (pyNext it) (fun r B=>match r with
     | none=>R (.ok .next) B
     | some v=>Qp (Qs prog w) A (Po z it v) (fun _ s1'=>Qp (Qs prog w) A (SL z env v) (fun _ S=>Qp (Qs prog w) A (forIn cs true fun c r=>if r=true then do let ok <- isTrue c env (eval c env);pure (Jd ok) else pure (Jd r)) (fun ok s2'=>if ok=true then Qp (Qs prog w) A (eval elt env) (fun x J =>
         Qp (Qs prog w) A (call (.builtin "list.append") [Z,x]) (fun _ W=>∃ m,m < n/\I m W) (fun _ _=>False) J)
         (fun _ _=>False) s2' else ∃ m,m < n/\I m s2') (fun _ _=>False) S) (fun _ _=>False) s1') (fun _ _=>False) B) (fun _ _=>False) s)
   (n:Nat) (h:I n s) :
   JE (Qs prog w) A (.compLoop (.ListComp elt [⟨z,iter,cs,0⟩] scope pos) 0 it Z env) R s:=by
 refine codeAny_loop rfl I (fun n s hI=>?_) n h
 show Qp _ _ ((compTurn (.ListComp elt [⟨z,iter,cs,0⟩] scope pos) 0 it Z env).onRaise (fun x=>do noteFrame x env;theTreesLotGoes x)) _ _ s
 refine wpAny_noted ?_
 rw [compTurn_list]
 refine Qe (Gr (Qe (QX (turn n s hI) (fun r B G=>?_) fun _ _ h'=>h'.elim)))
 cases r with
 | none=>exact Qu G
 | some v =>
   refine Qe (QX G (fun _ s1' h1'=>?_) fun _ _ h'=>h'.elim)
   refine Qe (QX h1' (fun _ S h₂=>Qe (QX h₂ (fun ok J Y=>?_) fun _ _ h'=>h'.elim)) fun _ _ h'=>h'.elim)
   cases ok with
   | false=>exact Qu ⟨rfl,Y⟩
   | true =>
     exact Qe (Qe (QX Y (fun x W h₄=>Qe (QX h₄ (fun _ s₅ h₅=>Qu (Qu ⟨rfl,h₅⟩)) fun _ _ h'=>h'.elim)) fun _ _ h'=>h'.elim))
theorem PCs.go {X:Cx}{cs:List Expr}{tc:TT}(h:PCs X cs tc)(pins:List (Addr×Obj))(s:Qd)(σ:St)(H:Hp)(Q:Bool->Hp->Prop)(I:Inv X pins σ H s)(q:tc σ H Q) :
 Qp (Qs X.prog X.w) X.A (forIn cs true fun c r=>if r=true then do let ok <- isTrue c X.env (eval c X.env);pure (Jd ok) else pure (Jd r)) (fun b s'=>∃ H',Inv X pins σ H' s'/\Q b H') X.xe s:=by
 rcases h with ⟨rfl,rfl⟩ | ⟨c,rfl,h⟩
 ·exact wpAny_tests_nil ⟨H,I,q⟩
 ·exact wpAny_tests_one (h pins s σ H Q I q)
theorem VX {pins:List (Addr×Obj)}{σ:St}{H2:Hp}{G:Qd}{J:It}{fp:List Addr}{it:Addr}{tn:Nat->Heap->Prop}{Y:List (Str×Addr)}{E:Qb->Qd->Prop}{Q:VK}{RR:Qb->Addr->RC->Qd->Prop}
 (O:CompOkN X scope xs) (hc:X.calm=true) (cl1:∀ y c,Y.lookup y=some c->X.env.cells.lookup y=some c) (cl2:∀ y∈scope.names,y.2=.free->Y.lookup y.1≠none)
 (hOK:∀ σ σ',OK σ σ'->∃ ws:St,ws.length=xs.length/\σ'=σ++ws) (hg:∀ Y C s₀ H₀ fp,PG (Yk X scope xs Y C s₀ H₀ fp) tg g) (hcn:∀ Y C s₀ H₀ fp,PCs (Yk X scope xs Y C s₀ H₀ fp) cs tc) (he:∀ Y C s₀ H₀ fp,PE (Yk X scope xs Y C s₀ H₀ fp) elt te)
 (I2:Inv X pins σ H2 G) (T:Vo X.prog X.w X.K tg J fp it tn) (st:tn 0 G.heap) (f2:∀ b∈fp,Xy X pins H2 b)
 (h:∀ D,H2 D=none->VI J g tc te xs.length OK σ D Q H2)
 (hRR:∀ D C H' s',Inv X pins σ H' s'->Xy X pins H' C->(∃ m,s'.heap.Ns C m)->Q (.ref D) H'->RR (.ref D) C (.ok .next) s') :
 Qp (Qs X.prog X.w) X.A (newList []) (fun acc B=>Qp (Qs X.prog X.w) X.A (newFunctionEnv scope X.env.globals Y [] X.env.qual none .none (some X.env)) (fun cenv Z =>
  JE (Qs X.prog X.w) X.A (.compStart (.ListComp elt [⟨tg,iter,cs,0⟩] scope pos) 0 (.ref it) acc { cenv with scope:=relabel scope X.env }) (RR acc cenv.locals) Z) E B) E G:=by
 have hD:H2 G.heap.objs.size=none:=I2.hok.fresh (Qg _)
 refine JC ?_
 have S:Inv X pins σ (upd H2 G.heap.objs.size (.lst [])) { G with heap:=G.heap.push { cls:=.type "list",data:=.seq ([]:List Qb).toArray } } :=
  I2.laid (t':=G.toks) (fun b u e=>Qc _ e) (Qg _) ⟨QF _,[],_,.nil,Qo _ rfl⟩
 have f3:∀ b∈fp,Xy X pins (upd H2 G.heap.objs.size (.lst [])) b:=fun b I=>by
  obtain ⟨g0,g1⟩:=f2 b I
  obtain ⟨o,e,_⟩:=T.obj 0 _ st b I
  exact ⟨by rw [Zi (Qq (Qf e))];exact g0,g1⟩
 have st3:tn 0 (G.heap.push { cls:=.type "list",data:=.seq ([]:List Qb).toArray }):=T.keep _ _ _ st fun b I o e=>Qc _ e
 obtain ⟨W,⟨m0,w0⟩,turn⟩:=h _ hD
 generalize hDe:G.heap.objs.size=D at S f3 w0 turn ⊢
 generalize hH3:upd H2 D (.lst [])=H3 at S f3 w0 turn ⊢
 generalize hs3:({ G with heap:=G.heap.push { cls:=.type "list",data:=.seq ([]:List Qb).toArray } }:Qd)=B at S
 have st3':tn 0 B.heap:=by rw [<- hs3];exact st3
 have hobj:∀ b∈fp,b < B.heap.objs.size:=fun b I=>by
  obtain ⟨o,e,_⟩:=T.obj 0 _ st3' b I
  exact Qf e
 refine wpAny_newFunctionEnv O.cell (by intro y hy;simp at hy) (fun h₁ hns₁ hsb₁=>?_) O.kind
 have old:∀ b o,B.heap.get? b=some o->h₁.get? b=some o:=fun b o e=>hsb₁.extBut b o (Qq (Qf e)) (Qc _ e)
 generalize hs4:({ B with heap:=h₁,toks:=B.toks+([]:List (Str×Qb)).length }:Qd)=Z
 have h4:Z.heap=h₁:=by rw [<- hs4]
 have hX:∀ C,Xy X pins C B.heap.objs.size->True:=fun _ _=>trivial
 have ok':(Yk X scope xs Y B.heap.objs.size B H3 fp).Ok:=by
  refine ⟨S.ok.mod,O.kind,S.ok.glob,S.ok.blt,Qg _,?_,?_,?_,S.ok.hd,S.ok.frames,.inl rfl,?_,S.bs,Qw S.ok.bsz S.sz,?_,?_,S.stack,S.stkFree⟩
  ·exact fun y z c e1 e2=>S.ok.inj y z c (cl1 y c e1) (cl1 z c e2)
  ·intro y hk
   have hf:scope.names.lookup y=some .free:=by
    rcases hk with hk | hk
    ·rcases YJ O.cell hk with q | q
     ·exact absurd rfl (O.cell _ (mem_of_lookup q))
     ·exact q.1
    ·rcases YJ O.cell hk with q | q
     ·exact q
     ·cases q.2
   have:=cl2 _ (mem_of_lookup hf) rfl
   cases e:Y.lookup y with
   | none=>exact absurd e this
   | some c=>exact ⟨c,e⟩
  ·intro y c hf;cases hf
  ·intro b I
   obtain ⟨g0,g1,g2,g3,g4,g5⟩:=f3 b I
   exact ⟨Qq (hobj b I),fun y c e=>g4 y c (cl1 y c e)⟩
  ·intro b o e I
   obtain ⟨g0,g1,g2,g3,g4,g5⟩:=f3 b I
   rcases g3 with g3 | g3
   ·exact S.ok.noex b o e g3
   ·exact absurd (Qf e) (GE.mpr (Qw S.ok.bsz g3))
  ·intro b I hs
   obtain ⟨g0,g1,g2,g3,g4,g5⟩:=f3 b I
   rcases mem_cons.mp (S.stkSub b hs) with e | e
   ·exact g1 e
   ·exact g2 e
 have I4 : Inv (Yk X scope xs Y B.heap.objs.size B H3 fp) [] (σ++QH xs.length none) H3 Z:=by
  obtain ⟨m,hm,hl⟩:=S.loc
  refine ⟨ok',by rw [<- hs4];rfl,by rw [<- hs4];exact S.bare,by rw [h4];exact Un.kept old,⟨_,by rw [h4];exact hns₁,?_⟩,?_,S.hok.fresh (Qg _),fun y c e=>S.freeC y c (cl1 y c e),?_,by rw [h4];exact S.hok.kept old,?_⟩
  ·intro i y v e1 e2 e3
   have hlt:i < σ.length:=by
    rcases Nat.lt_or_ge i σ.length with z | z
    ·exact z
    ·rw [getElem?_append_right z] at e2
     have:=List.eq_of_mem_replicate (mem_of_getElem? e2)
     cases this
   rw [getElem?_append_left hlt] at e2
   have hsm:∃ k,scope.names.lookup y=some k:=by
    rcases e3 with hk | hk | hk
    ·rcases YJ O.cell hk with q | q
     ·exact ⟨_,q⟩
     ·exact ⟨_,q.1⟩
    ·rcases YJ O.cell hk with q | q
     ·exact ⟨_,q⟩
     ·exact ⟨_,q.1⟩
    ·rcases YJ O.cell hk with q | q
     ·exact ⟨_,q⟩
     ·exact ⟨_,q.1⟩
   obtain ⟨e1',hyx⟩:X.N[i]?=some y/\y ∉ xs:=by
    have e1:(Uw X.N xs++xs)[i]?=some y:=e1
    rw [getElem?_append_left (by rw [VY,<- S.len];exact hlt)] at e1
    rcases Zik e1 with z | z
    ·exact z
    ·obtain ⟨k,hk⟩:=hsm
     rw [z,O.noh] at hk;cases hk
   have hy:y∈X.N:=mem_of_getElem? e1'
   have hf:scope.names.lookup y=some .free:=by
    rcases e3 with hk | hk | hk
    ·rcases YJ O.cell hk with q | q
     ·exact absurd q (O.own y hy hyx)
     ·exact q.1
    ·rcases YJ O.cell hk with q | q
     ·exact absurd rfl (O.cell _ (mem_of_lookup q))
     ·exact q.1
    ·rcases YJ O.cell hk with q | q
     ·exact q
     ·exact q.1
   have hk:=O.clos _ (mem_of_lookup hf) rfl
   have hv:Vis X.env.scope y:=by rcases hk with z | z;exact .inr (.inl z);exact .inr (.inr z)
   obtain ⟨u,ru,lu⟩:=hl i y v e1' e2 hv
   refine ⟨u,ru,?_⟩
   have hkc:(compEnvC scope Y B.heap.objs.size X.env).kindOf y=some .cell\/(compEnvC scope Y B.heap.objs.size X.env).kindOf y=some .free:=by
    rcases e3 with q | q | q
    ·rcases YJ O.cell q with z | z
     ·exact absurd z (O.own y hy hyx)
     ·cases z.2
    ·exact .inl q
    ·exact .inr q
   rcases lu with ⟨q,_⟩ | ⟨_,c,hcl,hcc⟩
   ·rcases hk with z | z<;>(rw [q] at z;cases z)
   ·refine .inr ⟨hkc,?_⟩
    cases e:Y.lookup y with
    | none=>exact absurd e (cl2 _ (mem_of_lookup hf) rfl)
    | some c' =>
     have:=cl1 y c' e
     rw [hcl] at this
     cases this
     refine ⟨c,e,?_⟩
     rw [h4]
     obtain ⟨oc,ho,hd⟩:=hcc
     exact ⟨oc,old _ _ ho,hd⟩
  ·intro y c e
   obtain ⟨v,oc,ho,hd⟩:=S.cell y c (cl1 y c e)
   exact ⟨v,oc,by rw [h4];exact old _ _ ho,hd⟩
  ·intro p hp;cases hp
  ·show (σ++QH xs.length none).length=(Uw X.N xs++xs).length
   rw [length_append,length_append,VY,S.len,JS]
 have st4:tn 0 Z.heap:=by rw [h4];exact T.keep _ _ _ st3' fun b I o e=>old b o e
 have fpok:∀ {H':Hp},(∀ b∈fp,H' b=none)->∀ b∈fp,Xy (Yk X scope xs Y B.heap.objs.size B H3 fp) [] H' b:=fun hn b I=>by
  obtain ⟨g0,g1,g2,g3,g4,g5⟩:=f3 b I
  refine ⟨hn b I,Qq (hobj b I),ok'.exfs b I,.inl I,fun y c e=>g4 y c (cl1 y c e),?_⟩
  intro p hp;cases hp
 have loop:JE (Qs X.prog X.w) X.A (.compLoop (.ListComp elt [⟨tg,iter,cs,0⟩] scope pos) 0 (.ref it) (.ref D) (compEnvC scope Y B.heap.objs.size X.env)) (RR (.ref D) B.heap.objs.size) Z:=by
  refine UJ (fun n s'=>∃ i ys ws H',ws.length=xs.length/\Inv (Yk X scope xs Y B.heap.objs.size B H3 fp) [] (σ++ws) H' s'/\tn i s'.heap/\(∀ b∈fp,H' b=none)/\W i n ys H') ?_ m0 ⟨0,[],_,H3,JS,I4,st4,fun b I=>(f3 b I).1,w0⟩
  rintro n s5 ⟨i,ys,ws,H5,hws,I5,st5,fr5,w5⟩
  rcases turn i n ys H5 w5 with ⟨stop,q⟩ | ⟨go,N,M,hN,hM,step⟩
  ·refine Zu (T.done (Yk X scope xs Y B.heap.objs.size B H3 fp) rfl rfl rfl hc i [] s5 _ H5 _ I5 (fpok fr5) st5 stop) fun r s6 ⟨hr,I6⟩=>?_
   subst hr
   obtain ⟨m6,hn6,_⟩:=I6.loc
   have IX:Inv X pins σ H5 s6:=S.call' (ch:=fp) I6.os I6.base I6.hok I6.bare fun b I=>by
    obtain ⟨g0,g1,g2,g3,g4,g5⟩:=f3 b I
    exact ⟨g3,g1,g4,g5⟩
   exact hRR D _ H5 s6 IX (S.fpOk (Qg _) I6.free) ⟨m6,hn6⟩ q
  ·refine Zu (T.item (Yk X scope xs Y B.heap.objs.size B H3 fp) rfl rfl rfl hc i [] s5 _ H5 _ I5 (fpok fr5) st5 go) fun r s6 ⟨u,hr,h6⟩=>?_
   subst hr
   refine Zu h6 fun _ s7 ⟨v,H7,I7,r7,y7,st7,fr7⟩=>?_
   have I7':=I7.pinned (fpok fr7) (T.obj _ _ st7)
   refine Zu (hg Y B.heap.objs.size B H3 fp _ s7 _ H7 v u _ I7' r7 (step ws v H7 hws y7)) fun _ s8 ⟨σ8,H8,I8,o8,q8⟩=>?_
   obtain ⟨ws',hws',e8⟩:=hOK σ σ8 o8
   subst e8
   refine Zu (PCs.go (hcn Y B.heap.objs.size B H3 fp) _ s8 _ H8 _ I8 q8) fun bb s8b ⟨H8b,I8b,q8b⟩=>?_
   cases bb with
   | false =>
    obtain ⟨m',hm',w9⟩:=hM H8b q8b
    refine ⟨m',hm',i+1,ys,ws',_,hws',I8b.unpinned (pins:=[]),T.keep _ _ _ st7 fun b I o e=>(I8b.pin (b,o) (mem_append_right _ (mem_append_right _ (Xr I e)))).1,fun b I=>?_,w9⟩
    obtain ⟨o,e,d⟩:=T.obj _ _ st7 b I
    exact (I8b.pin (b,o) (mem_append_right _ (mem_append_right _ (Xr I e)))).2.1
   | true =>
    refine Zu (he Y B.heap.objs.size B H3 fp _ s8b _ H8b _ I8b q8b) fun uy s9 ⟨y,H9,I9,r9,n9⟩=>?_
    obtain ⟨hl9,hz9,m',hm',w9⟩:=hN y H9 n9
    refine Zu (Yl (X:=Yk X scope xs Y B.heap.objs.size B H3 fp) _ s9 _ H9 (.ref D) [y] (.ref D) [uy] (fun v H'=>H'=upd H9 D (.lst (ys++[y]))) I9 rfl (.cons r9 .nil) ⟨D,ys,y,rfl,rfl,hl9,hz9,rfl⟩) fun _ s10 ⟨_,H10,I10,_,e10⟩=>?_
    subst e10
    refine ⟨m',hm',i+1,ys++[y],ws',_,hws',I10.unpinned (pins:=[]),T.keep _ _ _ st7 fun b I o e=>(I10.pin (b,o) (mem_append_right _ (mem_append_right _ (Xr I e)))).1,fun b I=>?_,w9⟩
    obtain ⟨o,e,d⟩:=T.obj _ _ st7 b I
    exact (I10.pin (b,o) (mem_append_right _ (mem_append_right _ (Xr I e)))).2.1
 exact codeAny_compStart_list loop (T.self _ 0 _ _ _ st4 loop)
theorem ZcH (O:CompOkN X scope xs)(hc:X.calm=true)(hi:PI X tg iter wi)(conv:∀ J σ D Q H,σ.length=X.N.length->CW J σ D Q H->VI J g tc te xs.length OK σ D Q H)(hOK:∀ σ W,OK σ W->∃ ws:St,ws.length=xs.length/\W=σ++ws)(hg:∀ S C G B fp,PG (Yk X scope xs S C G B fp) tg g)(hcn:∀ S C G B fp,PCs (Yk X scope xs S C G B fp) cs tc)(he:∀ S C G B fp,PE (Yk X scope xs S C G B fp) elt te)
 (hs:∀ v,Gh iter X.env v=pure v:=by intro _;rfl):PE X (.ListComp elt [⟨tg,iter,cs,0⟩] scope pos) (tCW wi CW):=by
 intro pins s σ H Q I h
 obtain ⟨S,Y,Z,cl2⟩:=ZaX (scope:=scope) (env:=X.env) fun y hy hf=>I.ok.has _ (O.clos y hy hf)
 rw [eval_ListComp]
 refine Ts (use:=none) rfl hs Y O.kind O.names (Zu (hi pins s σ H _ I h) fun v s1 h1=>Zu h1 fun itv s2 h2=>?_)
 obtain ⟨it,fp,tn,J,H2,e,I2,T,st2,f2,q⟩:=h2
 subst e
 refine VX (RR:=fun acc C=>compPost (Qs X.prog X.w) X.A X.xe none (EP X pins σ Q) acc C) O hc Z cl2 hOK hg hcn he I2 T st2 f2 (fun z hz=>conv _ _ z _ _ I2.len (q z hz)) ?_
 intro D C H' s' I' ⟨g0,g1,g2,g3,g4,g5⟩ ⟨m,hm⟩ hq
 exact ⟨m,hm,fun h' hs'=>⟨.ref D,H',I'.turned (t':=s'.toks) (fun b o hb e=>(hs'.2 b hb).trans e) g0 g1 g3 g4 g5,rfl,hq⟩⟩
theorem Uv {i:Nat}{y:Str}{W S:Pos}(O:CompOkN X scope xs)(hc:X.calm=true)(hN:X.N.Nodup)(hiN:X.N[i]?=some y)(hy:Loc X.env.scope y)(hi:PI X tg iter wi)(conv:∀ J σ D Q H,σ.length=X.N.length->CW J σ D Q H->VI J g tc te xs.length OK σ D Q H)(hOK:∀ σ Z,OK σ Z->∃ ws:St,ws.length=xs.length/\Z=σ++ws)(hg:∀ Y C G B fp,PG (Yk X scope xs Y C G B fp) tg g)(hcn:∀ Y C G B fp,PCs (Yk X scope xs Y C G B fp) cs tc)(he:∀ Y C G B fp,PE (Yk X scope xs Y C G B fp) elt te)
 (hsw:JA (.ListComp elt [⟨tg,iter,cs,0⟩] scope pos) (some (.Name y W)) S.line X.env=pure true) (hf:X.fn y=true\/X.env.scope.names.lookup y=some .local:=by first | exact .inl rfl | exact .inr rfl | assumption)
 (hs:∀ v,Gh iter X.env v=pure v:=by intro _;rfl):PS X (.Assign [.Name y W] (.ListComp elt [⟨tg,iter,cs,0⟩] scope pos) S) (Zbv (tCW wi CW) (WL i)):=by
 intro pins s σ H D I h
 obtain ⟨Y,hcl,cl1,cl2⟩:=ZaX (scope:=scope) (env:=X.env) fun y hy hf=>I.ok.has _ (O.clos y hy hf)
 rw [exec_Assign_Name_used _ _ _ _ hsw]
 refine Qe (Gr (Qe ?_))
 show Qp _ X.A (do let _ <- comprehension (.ListComp elt [⟨tg,iter,cs,0⟩] scope pos) scope X.env _ (newList []) false (eval iter X.env) (some (SL (.Name y W) X.env))) _ _ s
 refine Qe (QX (Ts (use:=some (SL (.Name y W) X.env)) (Q:=fun _ s'=>SP X pins D .next s') rfl hs hcl O.kind O.names
  (Zu (hi pins s σ H _ I h) fun v s1 h1=>Zu h1 fun itv s2 h2=>?_)) (fun _ s' hq=>Qu (Qu hq)) fun _ _ e=>e)
 obtain ⟨it,fp,tn,J,H2,e,I2,T,st2,f2,q⟩:=h2
 subst e
 refine VX (RR:=fun acc C=>compPost (Qs X.prog X.w) X.A X.xe (some (SL (.Name y W) X.env)) (fun _ s'=>SP X pins D .next s') acc C) O hc cl1 cl2 hOK hg hcn he I2 T st2 f2 (fun z hz=>conv _ _ z _ _ I2.len (q z hz)) ?_
 intro Dl C H' s' I' ⟨g0,g1,g2,g3,g4,g5⟩ ⟨m,hm⟩ hq
 show Qp _ X.A (SL (.Name y W) X.env (.ref Dl)) _ _ _
 refine RT (ZbJ I' hN hiN hy (v:=.ref Dl) rfl (fun s'' I'' ⟨a,sb,ha⟩=>?_) hf)
 have haC:C≠a:=by
  rcases ha with z | z
  ·rw [z];exact g1
  ·exact fun z'=>g4 y a z z'.symm
 exact ⟨m,hm.sameBut sb haC,fun h' hs'=>⟨_,H',I''.turned (t':=s''.toks) (fun b o hb e=>(hs'.2 b hb).trans e) g0 g1 g3 g4 g5,hq⟩⟩
end
theorem ok1:∀ σ z:St,(∃ w,z=σ++[w])->∃ B:St,B.length=[x].length/\z=σ++B:=fun _ _ ⟨w,e⟩=>⟨[w],rfl,e⟩
theorem set1 {σ:St}{w v:Option V}{n:Nat}(h:σ.length=n):(σ++[w]).set n v=σ++[v]:=by subst h;simp
theorem CompW.n {J:It}{te:TE}{σ:St}{D:Addr}{Q:VK}{H:Hp}{n:Nat}(hn:σ.length=n)(h:CompW J te σ D Q H):VI J (WL n) tYes te 1 (fun σ B=>∃ w,B=σ++[w]) σ D Q H:=by
 obtain ⟨W,w0,t⟩:=h
 refine ⟨W,w0,fun i m ys H2 w2=>(t i m ys H2 w2).imp (fun z=>z) fun ⟨go,N,S,hy⟩=>⟨go,N,fun _=>False,S,fun _ z=>z.elim,fun Y v G Z y=>?_⟩⟩
 match Y,Z with
 | [w],_ =>
  show (∃ I,(σ++[w]).set n (some v)=σ++[I])/\te ((σ++[w]).set n (some v)) G N
  rw [set1 hn]
  exact ⟨⟨_,rfl⟩,hy v G y⟩
section
variable {X:Cx}{elt iter:Expr}{x:Str}{px pos:Pos}{scope:Scope}{wi:TI}{te:TE}
theorem ZdP (O:CompOk X scope x):∀ G C z B fp,PG (Yk X scope [x] G C z B fp) (.Name x px) (WL X.N.length):=fun G C z B fp =>
 Ya (X:=Yk X scope [x] G C z B fp) O.nd (show (Uw X.N [x]++[x])[X.N.length]?=some x by rw [<- VY X.N [x]];simp) (.inl (SQ (O.loc x (mem_cons_self ..)))) (.inr (SQ (O.loc x (mem_cons_self ..))))
theorem UD (O:CompOk X scope x)(W:X.calm=true)(hi:PI X (.Name x px) iter wi)(Y:∀ S C B z fp,PE (ZaB X scope x S C B z fp) elt te)
 (G:∀ v,Gh iter X.env v=pure v:=by intro _;rfl):PE X (.ListComp elt [⟨.Name x px,iter,[],0⟩] scope pos) (Zjw wi te) :=
 ZcH (CW:=fun J σ D Q H=>CompW J te σ D Q H) O W hi (fun _ _ _ _ _ I h=>h.n I) ok1 (ZdP O) (fun _ _ _ _ _=>.inl ⟨rfl,rfl⟩) Y G
theorem ZfC {i:Nat}{y:Str}{W z:Pos}(O:CompOk X scope x)(hc:X.calm=true)(Z:X.N.Nodup)(I:X.N[i]?=some y)(hy:Loc X.env.scope y)(hi:PI X (.Name x px) iter wi)(he:∀ cl C G B fp,PE (ZaB X scope x cl C G B fp) elt te)
 (S:JA (.ListComp elt [⟨.Name x px,iter,[],0⟩] scope pos) (some (.Name y W)) z.line X.env=pure true) (hf:X.fn y=true\/X.env.scope.names.lookup y=some .local:=by first | exact .inl rfl | exact .inr rfl | assumption)
 (Y:∀ v,Gh iter X.env v=pure v:=by intro _;rfl):PS X (.Assign [.Name y W] (.ListComp elt [⟨.Name x px,iter,[],0⟩] scope pos) z) (Zbv (Zjw wi te) (WL i)) :=
 Uv (CW:=fun J σ D Q H=>CompW J te σ D Q H) O hc Z I hy hi (fun _ _ _ _ _ hl h=>h.n hl) ok1 (ZdP O) (fun _ _ _ _ _=>.inl ⟨rfl,rfl⟩) he S hf Y
end
theorem ZfQ {lo:Int}{n:Nat}{te:TE}{σ:St}{D:Addr}{Q:VK}{H:Hp}(hn:n<=Qh)(z:Nat->List V->Hp->Prop)(Y:z 0 [] (upd H D (.lst [])))
 (W:∀ i ys H,z i ys H->ys.length=i)
 (S:∀ i ys H,i < n->z i ys H->te (σ++[some (.int (lo+i))]) H fun y G=>G D=some (.lst ys)/\z (i+1) (ys++[y]) (upd G D (.lst (ys++[y])))) (Z:∀ ys H,z n ys H->Q (.ref D) H):CompW (Itr lo n) te σ D Q H:=by
 refine ⟨fun i m ys H=>m=n - i/\i<=n/\z i ys H,⟨n,by simp,QF _,Y⟩,?_⟩
 rintro i m ys H2 ⟨rfl,hi,p⟩
 by_cases B:i < n
 ·have I:=W i ys _ p
  refine .inr ⟨B,_,fun y G (q:G D=some (.lst ys)/\z (i+1) (ys++[y]) (upd G D (.lst (ys++[y]))))=>⟨q.1,by omega,n - (i+1),by omega,rfl,B,q.2⟩,fun v H3 y=>?_⟩
  obtain ⟨e,J⟩:=y
  subst e J
  exact S i ys _ B p
 ·have e:i=n:=by omega
  subst e
  exact .inl ⟨Qg _,Z ys H2 p⟩
theorem ZhR {K:Qa}{a:Addr}{xs:List V}{te:TE}{σ:St}{D:Addr}{Q:VK}{H:Hp}(hn:xs.length<=Qh)(z:Nat->List V->Hp->Prop)(W:z 0 [] (upd H D (.lst [])))
 (S:∀ i ys H,z i ys H->ys.length=i/\SqT K H a xs)
 (J:∀ i x ys H,xs[i]?=some x->z i ys H->te (σ++[some x]) H fun y G=>G D=some (.lst ys)/\z (i+1) (ys++[y]) (upd G D (.lst (ys++[y])))) (Y:∀ ys H,z xs.length ys H->Q (.ref D) H):CompW (Itt K a) te σ D Q H:=by
 refine ⟨fun i m ys H=>m=xs.length - i/\i<=xs.length/\z i ys H,⟨xs.length,by simp,QF _,W⟩,?_⟩
 rintro i m ys H2 ⟨rfl,hi,p⟩
 obtain ⟨I,q⟩:=S i ys _ p
 by_cases B:i < xs.length
 ·refine .inr ⟨⟨xs,xs[i],q,by simp [B]⟩,_,fun y G (q:G D=some (.lst ys)/\z (i+1) (ys++[y]) (upd G D (.lst (ys++[y]))))=>⟨q.1,by omega,xs.length - (i+1),by omega,rfl,B,q.2⟩,fun v Z y=>?_⟩
  obtain ⟨e,y⟩:=y
  subst e
  exact J i v ys _ (y xs q) p
 ·have e:i=xs.length:=by omega
  subst e
  exact .inl ⟨⟨xs,q,Qg _⟩,Y ys H2 p⟩
section
variable {X:Cx}{tg:Expr}
end
section
variable {X:Cx}
theorem ZdK:YD X (.builtin "isinstance") (fun xs H Q=>∃ x c t b,xs=[x,.ty c]/\XV X.K H x t/\JF X.K t (.type c)=some b/\Q (.bl b) H):=by
 intro pins s σ H xs us Q I r h
 obtain ⟨x,c,t,b,rfl,ty,e,q⟩:=h
 obtain ⟨u,G,rfl,J,z⟩:=VH r
 have B:G=Sb c:=z
 subst B
 exact ZbU I J ty e fun tk=>⟨.bl b,H,I.tok tk,rfl,q⟩
theorem Zii (hc:X.calm=true):YD X (.builtin "all") (fun xs H Q=>∃ (a:Addr) (bs:List Bool),xs=[.ref a]/\SqL X.K H a (bs.map V.bl)/\Q (.bl (bs.all id)) H):=by
 intro pins s σ H xs us Q I r h
 obtain ⟨a,bs,rfl,hq,q⟩:=h
 obtain ⟨u,rfl,ru⟩:=YC r
 cases ru
 obtain ⟨G,rv,p,hz⟩:=I.list hq
 have B:=rv.length
 rw [length_map] at B
 have hal:a < s.heap.objs.size:=by obtain ⟨_,e,_⟩:=p.isList;exact Qf e
 refine call_all_walk (RV p.isList ⟨s.heap.objs.size,_,_,_,_,_,fun i=>bs.getD i false,rfl,Walks.list (A:=X.A.in1) (I.ok.hd hc) s.heap.objs.size a (Qq hal) G.toArray,⟨⟨_,Qo _ rfl,rfl,rfl⟩,p.isList.push _⟩,?_,?_⟩)
 ·intro i v s' Q' E' hv Y
  have W:G[i]?=some v:=by simpa using hv
  have hi:i < bs.length:=by
   have:=(Qn.mp W).1
   omega
  obtain ⟨u,hu,ru⟩:=rv.get (i:=i) (x:=V.bl bs[i]) (by simp [hi])
  rw [W] at hu
  cases hu
  have e:v=Sa bs[i]:=ru
  subst e
  have J:Q' (bs.getD i false) s':=Y
  rw [getD_eq_getElem?_getD,getElem?_eq_getElem hi] at J
  exact QY J
 ·intro h' tk hk
  have e:(QW G.toArray.size).all (fun i=>bs.getD i false)=bs.all id:=by
   rw [size_toArray,<- B]
   apply Bool.eq_iff_iff.mpr
   rw [all_eq_true,all_eq_true]
   constructor
   ·intro z b hb
    obtain ⟨i,hi,rfl⟩:=Ph.mp hb
    have:=z i (mem_range.mpr hi)
    rwa [getD_eq_getElem?_getD,getElem?_eq_getElem hi] at this
   ·intro z i hi
    have S:=mem_range.mp hi
    rw [getD_eq_getElem?_getD,getElem?_eq_getElem S]
    exact z _ (Ge S)
  rw [e]
  refine ⟨.bl (bs.all id),H,I.kept (t':=tk) fun b o Z=>hk b o ?_ (Qc _ Z),rfl,q⟩
  intro hm
  have:b=s.heap.objs.size:=by simpa using hm
  rw [this] at Z
  exact absurd (Qf Z) (Gz _)
theorem ZeD:∀{ys:List Str}{us:List Qb},Vals (ys.map V.str) us->Pb us ys
 | [],_,.nil=>.nil
 | y::ys,_,.cons r t=>by obtain ⟨k,rfl⟩:=r;exact .cons _ _ (ZeD t)
theorem ZeR:MtR X "str.join" (fun x xs H Q=>∃ z a ys,x=.str z/\xs=[.ref a]/\SqL X.K H a (ys.map V.str)/\(ys.map (·.length)).sum+ys.length * z.length<=16777216/\Q (.str (Txt.join z ys)) H):=by
 intro pins s σ H x xs v us Q I J G h
 obtain ⟨z,a,ys,rfl,rfl,Y,B,q⟩:=h
 obtain ⟨t,rfl⟩:=J
 obtain ⟨u,rfl,S⟩:=YC G
 cases S
 obtain ⟨W,r,p,_⟩:=I.list Y
 exact join_list p.isList (by simpa using ZeD r) B fun t' k=>⟨.str _,H,I.tok k,⟨_,rfl⟩,q⟩
theorem Zdc:SlR X (fun x lo hi H Q=>∃ z,x=.str z/\z.length<=Qh/\Q (.str (Txt.slice z lo hi)) H):=by
 intro pins s σ H x v vl vu lo hi sl Q I rx hs pl pu h
 obtain ⟨z,rfl,J,q⟩:=h
 obtain ⟨t,rfl⟩:=rx
 refine ⟨"str",_,F.slot_str_getitem.lookup,RH _ _ _,?_⟩
 have B:∀ (t':Tok) (k:Nat),EP X pins σ Q (.str (Txt.slice z lo hi) t') { s with toks:=k }:=fun t' k=>⟨.str _,H,I.tok k,⟨_,rfl⟩,q⟩
 obtain ⟨o,G,S,W⟩:=hs
 cases pl<;>cases pu
 ·exact GV (l:=none) (u:=none) (st:=none) ⟨_,G,S,W⟩ rfl (Pu ⟨Qw (Txt.slice_le z _ _) J,B⟩)
 ·rename_i j Y
  exact GV (l:=none) (u:=some (j,Y)) (st:=none) ⟨_,G,S,W⟩ rfl (Pu ⟨Qw (Txt.slice_le z _ _) J,B⟩)
 ·rename_i i Z
  exact GV (l:=some (i,Z)) (u:=none) (st:=none) ⟨_,G,S,W⟩ rfl (Pu ⟨Qw (Txt.slice_le z _ _) J,B⟩)
 ·rename_i i Z j Y
  exact GV (l:=some (i,Z)) (u:=some (j,Y)) (st:=none) ⟨_,G,S,W⟩ rfl (Pu ⟨Qw (Txt.slice_le z _ _) J,B⟩)
end
mutual
inductive DataOf (H:Hp):V->Jy->Prop
 | non:DataOf H .non .none
 | bl (b):DataOf H (.bl b) (.bool b)
 | int (i):DataOf H (.int i) (.int i)
 | str (x):DataOf H (.str x) (.str x)
 | lst {a xs ds}:H a=some (.lst xs)->DatasOf H xs ds->DataOf H (.ref a) (.list ds)
 | tup {a xs ds}:H a=some (.tup xs)->DatasOf H xs ds->DataOf H (.ref a) (.tuple ds)
inductive DatasOf (H:Hp):List V->List Jy->Prop
 | nil:DatasOf H [] []
 | cons {v d vs ds}:DataOf H v d->DatasOf H vs ds->DatasOf H (v::vs) (d::ds)
end
mutual
theorem DataOf.mono {H H':Hp}(k:∀ a o,H a=some o->H' a=some o):∀{v d},DataOf H v d->DataOf H' v d
 | _,_,.non=>.non
 | _,_,.bl b=>.bl b
 | _,_,.int i=>.int i
 | _,_,.str x=>.str x
 | _,_,.lst h r=>.lst (k _ _ h) (DatasOf.mono k r)
 | _,_,.tup h r=>.tup (k _ _ h) (DatasOf.mono k r)
theorem DatasOf.mono {H H':Hp}(k:∀ a o,H a=some o->H' a=some o):∀{vs ds},DatasOf H vs ds->DatasOf H' vs ds
 | _,_,.nil=>.nil
 | _,_,.cons r t=>.cons (DataOf.mono k r) (DatasOf.mono k t)
end
section
variable {P:Qj}{w:Qr}{H:Hp}{h:Heap}
mutual
theorem DataOf.reads (hok:HOk P w H h):∀{v d}(u:Qb),DataOf H v d->RelV v u->d.hasDict=false/\∃ as,Reads h u d as
 | _,_,u,.non,r=>by cases (show u=.none from r);exact ⟨rfl,_,.none⟩
 | _,_,u,.bl b,r=>by cases (show u=.bool b from r);exact ⟨rfl,_,.bool b⟩
 | _,_,u,.int i,r=>by obtain ⟨t,e⟩:=(show ∃ t,u=.int i t from r);subst e;exact ⟨rfl,_,.int i t⟩
 | _,_,u,.str x,r=>by obtain ⟨t,e⟩:=(show ∃ t,u=.str x t from r);subst e;exact ⟨rfl,_,.str x t⟩
 | _,_,u,.lst (a:=a) (xs:=xs) e q,r=>by
  cases (show u=.ref a from r)
  obtain ⟨_,z,n,G,g⟩:=(show ObjOk P w H h a (.lst xs) from hok a _ e)
  obtain ⟨I,as,B⟩:=DatasOf.reads hok z q G
  exact ⟨by simpa [SS] using I,_,.list g rfl rfl (by simpa using B)⟩
 | _,_,u,.tup (a:=a) (xs:=xs) e q,r=>by
  cases (show u=.ref a from r)
  obtain ⟨_,z,G,o,g,c,n,d⟩:=(show ObjOk P w H h a (.tup xs) from hok a _ e)
  obtain ⟨I,as,B⟩:=DatasOf.reads hok z q G
  exact ⟨by simpa [SS] using I,_,.tuple g c d (by simpa using B)⟩
theorem DatasOf.reads (hok:HOk P w H h):∀{vs ds}(us:List Qb),DatasOf H vs ds->Vals vs us->JL ds=false/\∃ as,ReadsAll h us ds as
 | _,_,_,.nil,.nil=>⟨rfl,_,.nil⟩
 | _,_,_,.cons r t,.cons rv tv=>by
  obtain ⟨G,as,I⟩:=DataOf.reads hok _ r rv
  obtain ⟨z,bs,B⟩:=DatasOf.reads hok _ t tv
  exact ⟨by simp [JL,G,z],_,.cons I B⟩
end
end
section
variable {X:Cx}
end
def Def (P:Qj)(w:Qr)(K:Qa)(mg:Str->Option Qb)(base:Heap)(k:Nat)(x:Str)(ps:List Str)(sp:Sp):Prop :=
 ∃ f fd,FnOk P w K mg base ZH k f fd ps sp/\Binds K fd ps []/\Gs K (.ref f)=true/\mg x=some (.ref f)
theorem Def.mono {P:Qj}{w:Qr}{K:Qa}{mg:Str->Option Qb}{base:Heap}{j k:Nat}{x:Str}{ps:List Str}{sp:Sp}(D:Def P w K mg base j x ps sp)(h:j<=k):Def P w K mg base k x ps sp :=
 let ⟨f,fd,F,b,kp,m⟩:=D;⟨f,fd,F.mono h,b,kp,m⟩
section
variable {X:Cx}{k:Nat}{x:Str}{ps:List Str}{sp:Sp}{p pos:Pos}{e:Expr}{es:List Expr}{t:TA}
theorem ZD (D:Def X.prog X.w X.K X.mg X.base k x ps sp)(G:Room k X.A)(I:PA X (e::es) t)(J:Gl X x:=by rfl)(B:(x == ("__debug__":Str))=false:=by decide)
 (S:Qz (e::es) X.env=(false,eval e X.env)::Qz es X.env:=by rfl) (z:(GP pos (Qz es X.env)).any (·.1)=false:=by rfl) :
 PE X (.Call (.Name x p) (e::es) [] pos) (ZfA sp [] E0 t):=by
 obtain ⟨f,fd,F,b,kp,m⟩:=D
 exact ZkL F G J m kp b .nil Zcw I B S z
end
def Kp (p:Addr)(H H':Hp):Prop:=∀ q o,q≠p->H q=some o->H' q=some o
theorem Kp.trans {p:Addr}{H H1 H2:Hp}(a:Kp p H H1)(b:Kp p H1 H2):Kp p H H2:=fun q o n h=>b q o n (a q o n h)
theorem Kp.upd (p:Addr)(H:Hp)(o:HO):Kp p H (upd H p o):=fun q u n h=>by rw [Zi n];exact h
theorem Same.kp {H H':Hp}(a:Same H H')(p:Addr):Kp p H H':=fun q o _ h=>a q o h
theorem Zm {H:Hp}{p:Addr}(h:H p=none)(o:HO):Same H (upd H p o):=fun b u q=>by rw [Zi (Zp q h)];exact q
def BoxAt (H:Hp)(p:Addr)(n:Nat):Prop:=∃ a b c:Int,H p=some (.lst [.int a,.int b,.int c])/\0<=a/\0<=c/\c<=n
theorem BoxAt.same {H H':Hp}{p:Addr}{n:Nat}(h:BoxAt H p n)(s:Same H H'):BoxAt H' p n:=let ⟨a,b,c,e,r⟩:=h;⟨a,b,c,s _ _ e,r⟩
theorem BoxAt.le {H:Hp}{p:Addr}{n m:Nat}(h:BoxAt H p n)(l:n<=m):BoxAt H p m:=let ⟨a,b,c,e,h1,h2,h3⟩:=h;⟨a,b,c,e,h1,h2,by omega⟩
def ZaC (M:Int):Sp:=fun vs H Q _=>∃(p:Addr)(n:Nat)(m:Int),vs=[.ref p,.int m]/\BoxAt H p n/\n<=1000000/\0 < m/\m < M/\∀(r:Int)(H':Hp),0<=r->r < m->BoxAt H' p (n+1)->Kp p H H'->Q (.int r) H'
def Zhh (K:Qa):Sp:=fun vs H Q _=>∃(a:Addr)(ns:List Int)(k:Int),vs=[.ref a,.int k]/\SqL K H a (ns.map V.int)/\0<=k/\∀(r:Int),Q (.int r) H
def Zjo (K:Qa):Sp:=fun vs H Q _=>∃(a:Addr)(ns:List Int)(k:Int),vs=[.ref a,.int k]/\SqL K H a (ns.map V.int)/\0<=k/\k<=1000/\∀(p:Addr)(H':Hp),H p=none->BoxAt H' p 0->Same H H'->Q (.ref p) H'
theorem ZfL {n:Nat}(h:n<=1000):n<=sizeLine:=GZ (Zgc h)
theorem ZaP:∀ (rest:List Str) (z:Array Nat),(rest.foldl (fun z p=>z++(QI "").cps++p.cps) z).toList=z.toList++rest.flatMap (·.cps.toList)
 | [],z=>by simp
 | p::r,z=>by
  have e:(QI "").cps=#[]:=by decide +kernel
  rw [OZ,ZaP r,Ti,e]
  simp
theorem WH:∀ ys:List Str,(Txt.join (QI "") ys).cps.toList=ys.flatMap (·.cps.toList)
 | []=>rfl
 | y::r=>by
  show (RI (fun z p=>z++(QI "").cps++p.cps) y.cps r).toList=_
  rw [ZaP];rfl
theorem Ym (x:Str):x.length=x.cps.toList.length:=by simp [Str.length]
theorem ZgJ (s e:Int)(i j:Nat)(B:s=i)(z:e=j):RJ s e 1=(QW (j - i)).map (i+·):=by
 subst B z
 unfold RJ
 simp only [show (1:Int) > 0 by decide,if_true]
 have G:(if (i:Int) < (j:Int) then ((j:Int) - i+1 - 1) / 1 else 0).toNat=j - i:=by
  split
  ·rw [Ol];omega
  ·omega
 rw [G]
 apply Js
 intro k I
 omega
theorem Wu (z:Str)(lo hi:Option Int):(Txt.slice z lo hi).cps.toList=(z.cps.toList.drop (HT.sIx z.length 0 lo)).take (HT.sIx z.length z.length hi - HT.sIx z.length 0 lo):=by
 have key:PD lo hi 1 z.length=(QW (HT.sIx z.length z.length hi - HT.sIx z.length 0 lo)).map (HT.sIx z.length 0 lo+·):=by
  unfold PD
  refine ZgJ _ _ _ _ ?_ ?_
  ·cases lo with
   | none=>rfl
   | some i=>simp only [HT.sIx,show (1:Int) > 0 by decide,if_true];split<;>omega
  ·cases hi with
   | none=>rfl
   | some i=>simp only [HT.sIx,show (1:Int) > 0 by decide,if_true];split<;>omega
 have hj:HT.sIx z.length z.length hi<=z.length:=HT.sIx_le _ _ (Qg _) hi
 unfold Txt.slice
 rw [key]
 split
 ·rename_i h
  simp only [beq_self_eq_true,Bool.true_and,length_map,List.length_range,beq_iff_eq] at h
  have h0:HT.sIx z.length 0 lo=0\/z.length=0:=by omega
  rcases h0 with h0 | h0
  ·rw [h0] at h ⊢
   rw [List.drop_zero,h,Ym,TN]
  ·have e:z.cps.toList=[]:=Pi (by rw [<- Ym];exact h0)
   rw [e];simp
 ·show (List.filterMap (fun k=>z.cps[k]?) ((QW _).map _)).toArray.toList=_
  rw [RL]
  generalize HT.sIx z.length 0 lo=i at *
  generalize HT.sIx z.length z.length hi - i=n at *
  have B:∀ (n i:Nat),List.filterMap ((fun k=>z.cps[k]?) ∘ (i+·)) (QW n)=(z.cps.toList.drop i).take n:=by
   intro n
   induction n with
   | zero=>intro i;simp
   | succ n ih =>
    intro i
    rw [Sv,SD,ih,Jh,RM]
    congr 1
    simp only [filterMap_cons,List.filterMap_nil,Function.comp,SE]
    cases z.cps[i+n]?<;>rfl
  rw [B]
theorem Vj (x y:Str):(x++y).cps.toList=x.cps.toList++y.cps.toList:=by
 show (x.cps++y.cps).toList=_
 simp
theorem Xs (x y:Str):(x++y).length=x.length+y.length:=by rw [Ym,Vj,length_append,<- Ym,<- Ym]
def UL (c:Nat):Bool:=decide (97<=c)&&decide (c<=122)
def VQ (c:Nat):Bool:=decide (32<=c)&&decide (c<=126)
theorem Zgm {X:Cx}{K:Qa}(z:X.K=K):YD X (.builtin "len") (fun xs H Q=>∃ x n,xs=[x]/\ZiC K x H n/\Q (.int n) H):=by subst z;exact Ziv
@[reducible] def notStar:Expr->Bool
 | .Starred ..=>false
 | _=>true
theorem Zjv {e:Expr}{es:List Expr}{env:Env}(h:notStar e=true):Qz (e::es) env=(false,eval e env)::Qz es env:=by
 cases e<;>first | rfl | cases h
section
variable {X:Cx}{k:Nat}{x:Str}{ps:List Str}{sp:Sp}{p pos:Pos}{e:Expr}{es:List Expr}{te:TE}{t:TA}
theorem YU (B:PE X e te)(z:PA X es t)(h:notStar e=true):PA X (e::es) (Xu te t):=Yu B z (Zjv h)
theorem Zb (B:PE X e te)(z:PA X es t)(h:notStar e=true:=by rfl):PA X (e::es) (Xu te t):=Yu B z (Zjv h)
end
section
variable {X:Cx}
theorem ZiF:YY X (Ju .FloorDiv) (rI (fun _ j=>0 < j/\j < 2 ^ 62) fun i j=>.int (i / j)):=opI fun i j _ _ _ _ _ z q=>by
 have h1:(0:Int) < j:=z.1
 have h2:j < 2 ^ 62:=z.2
 refine floordiv_int (by omega) (by rw [Jn i (by omega)];exact q) (.inl (PyProof.noPylong_of_log2 ?_))
 have B:j.natAbs≠0:=by omega
 have G:j.natAbs < 2 ^ 9000:=QE (show j.natAbs < 2 ^ 62 by omega) (Nat.pow_le_pow_right (by decide) (by decide))
 exact (Nat.log2_lt B).mpr G
theorem ZdJ:MtR X "str.index" (fun x xs H Q=>∃ z y,x=.str z/\xs=[.str y]/\0<=Txt.find z y/\Q (.int (Txt.find z y)) H):=by
 intro pins s σ H x xs v us Q I G B h
 obtain ⟨z,y,rfl,rfl,S,q⟩:=h
 obtain ⟨t,rfl⟩:=G
 obtain ⟨u,rfl,J⟩:=YC B
 obtain ⟨t',rfl⟩:=J
 cases ho:Builtin.Str.occurrences z y 0 z.length 1 with
 | nil => have:Txt.find z y=-1:=by simp [Txt.find,ho]
          omega
 | cons i rest =>
   have e:Txt.find z y=i:=by simp [Txt.find,ho]
   rw [e] at q
   exact call_gives F.slot_str_index (RH _ _ _) F.entry_str_index (F.args_str_index_2 _ _) (gives_str_index z y t t' i rest ho) ⟨.int i,H,I.tok _,⟨_,rfl⟩,q⟩
end
section
variable {X:Cx}
end
section
variable {X:Cx}{tg:Expr}
end
theorem Zbg {prog:Qj}{w:Qr}{A:QG}{B:Addr}{fp:List Addr}{n:Nat}{P:Nat->Qb->Prop}{St:Nat->Heap->Prop}(D:Draws prog w A B fp n P St) :
 Draws prog w A B fp (n+1) (fun i v=>∃ j,i=j+1/\P j v) (fun i h=>∃ j,i=j+1/\St j h) where
 live:=fun i h ⟨j,_,st⟩=>D.live j h st
 frame:=fun i h h' ⟨j,e,st⟩ k=>⟨j,e,D.frame j h h' st k⟩
 item:=fun i s Q E hi ⟨j,e,st⟩ J=>by
  subst e
  exact D.item j s Q E (by omega) st fun x h' tk p z G=>J x h' tk ⟨j,rfl,p⟩ ⟨j+1,rfl,z⟩ G
 done:=fun s Q E ⟨j,e,st⟩ I=>by
  have:n=j:=by omega
  subst this
  exact D.done s Q E st I
section
variable {prog:Qj}{w:Qr}{A:QG}{E:Qb->Qd->Prop}{s:Qd}
theorem Zad (x:Str)(t B:Tok) :
 Meets (Ji.«enumerate.__new__» ⟨[.type "enumerate",.str x t],[("start",.int 1 B)]⟩) (fun _ R s =>
  R (.ok (.ret (.ref (s.heap.push { cls:=.type (GL x),data:=.fields #[.str x t,.int 0 0] }).objs.size)))
   {s with heap:=(s.heap.push { cls:=.type (GL x),data:=.fields #[.str x t,.int 0 0] }).push { cls:=.type "enumerate",data:=.fields #[.none,.bool false,.ref s.heap.objs.size,Gx 1,.none,.none] } }) :=
 .of_wp fun prog w A R s h=>by
  obtain ⟨hp,g,d,tk,os⟩:=s
  have z:=sub_enumerate
  wp_walk
  refine wpAny_stack_any fun st=>Qu ?_
  split
  ·rename_i c _ _ _ _ _
   cases (c == Sb "enumerate")<;>(wp_walk using Om;exact ⟨_,rfl,h⟩)
  ·wp_walk using Om
   exact ⟨_,rfl,h⟩
end
section
variable {prog:Qj}{w:Qr}{A:QG}{E:Qb->Qd->Prop}{s:Qd}
theorem ZbB {T z:String}{B a:Qb}{J:List (Str×Qb)}(Y:QU (.type T) "__init__"=pure (some (.builtin "object.__init__")))
 (Z:Bind.madeBy (.type T)=pure (some z)) (G:(some z != some "object.__new__")=true) :
 Meets (Ji.«object.__init__» ⟨[B,a],J⟩) (fun _ R s=>s.TypeIs B T/\R (.ok (.ret .none)) s):=by
 refine Meets.of_wp fun prog w A R s I=>?_
 obtain ⟨W,S⟩:=I
 repeat (any_goals first | assumption | wp_step)
 exact ⟨_,rfl,S⟩
theorem Zdy {T G z:String}{Bn Bi:Ji}{args:List Qb}{Z:List (Str×Qb)}{S:PySem.Spec}{Q Q₁:Qb->Qd->Prop}(J:TypeCalled T G z)
 (hct:checkTypeCall T ⟨args,Z⟩=pure ()) (hcn:Go G ⟨.type T::args,Z⟩=pure ())
 (W:entryFor table G=some Bn) (Y:entryFor table z=some Bi) (g:Meets (Bn ⟨.type T::args,Z⟩) S) (h:S A.in1 (wants Q₁ E) s)
 (hnext:∀ obj B,Q₁ obj B->B.TypeIs obj T/\argsOk z ⟨obj::args,Z⟩/\∃ Si,Meets (Bi ⟨obj::args,Z⟩) Si/\Si A.in1 (wants (fun r s₂=>r=.none/\Q obj s₂) E) B) :
 Qp (Qs prog w) A (call (.type T) args Z) Q E s:=by
 obtain ⟨c,tl,hmro⟩:=J.mro
 have q1:=J.made
 have q2:=J.sub
 refine JV (Nf (show Qp _ _ (callAny (.type T) _) _ _ _ from Qu ⟨Jz _ (by decide +kernel),Pw F.entry_type_call ?_⟩))
 rw [Around.under_plain (weight_type_call_type T args Z) (units_type_call_type T args Z)]
 have q3:=J.notType
 have q4:=J.canCreate
 repeat (any_goals first | assumption | wp_step)
 refine GK (GM J.plain W (OV hcn (g prog w A.in1 _ s h))) fun r B hr=>?_
 rcases r with e | fl
 ·exact hr
 ·cases fl with
  | ret obj =>
   obtain ⟨hT,hok,Si,gi,hsi⟩:=hnext _ _ hr
   have q5:=J.init.lookup
   have q6:=J.init.bind obj
   repeat (any_goals first | assumption | wp_step)
   refine GK (GM J.init.plain Y (J.init.check _ _ _ _ _ _ _ _ hT hok (gi prog w A.in1 _ B hsi))) fun r₂ s₂ I=>?_
   rcases r₂ with e | fl₂
   ·exact I
   ·cases fl₂ with
    | ret r =>
     obtain ⟨rfl,hq⟩:=I
     repeat (any_goals first | assumption | wp_step)
    | _=>exact I.elim
  | _=>exact hr.elim
theorem Vi (a b:Qb):checkTypeCall "enumerate" ⟨[a],[("start",b)]⟩=pure ():=by kernel_rfl
theorem Vx (a b:Qb):Go "enumerate.__new__" ⟨[.type "enumerate",a],[("start",b)]⟩=pure ():=by kernel_rfl
theorem ZaN (o a b:Qb):argsOk "object.__init__" ⟨[o,a],[("start",b)]⟩:=by
 unfold argsOk
 rw [signature?_of (id:="object.__init__") (n:=['_','_','t','i','n','i','_','_']) (o:=['t','c','e','j','b','o']) (by kernel_rfl) F.owner_object]
 kernel_rfl
theorem ZaH {x:Str}{t Z:Tok}{Q:Qb->Qd->Prop}
 (h:∀ h',IsEnum h' (s.heap.objs.size+1) s.heap.objs.size 1 .none->h'.IsStrIter s.heap.objs.size (GL x) x t 0->h'.objs.size=s.heap.objs.size+2 ->
  (∀ b o,s.heap.get? b=some o->h'.get? b=some o)->Q (.ref (s.heap.objs.size+1)) { s with heap:=h' }) :
 Qp (Qs prog w) A (call (.type "enumerate") [.str x t] [("start",.int 1 Z)]) Q E s:=by
 have J:=F.called_enumerate
 refine Zdy (Q₁:=fun obj z=>z.TypeIs obj "enumerate"/\Q obj z) J (Vi _ _) (Vx _ _) F.entry_enumerate_new F.entry_object_init (Zad x t Z) ?_
  (fun obj z Y=>⟨Y.1,ZaN obj _ _,_,ZbB J.init.lookup J.made (by decide),Y.1,rfl,Y.2⟩)
 generalize S:({ cls:=.type (GL x),data:=.fields #[.str x t,.int 0 0] }:Obj)=O
 have I:(s.heap.push O).objs.size=s.heap.objs.size+1:=Jo ..
 generalize G:({ cls:=.type "enumerate",data:=.fields #[.none,.bool false,.ref s.heap.objs.size,Gx 1,.none,.none] }:Obj)=B
 have W:((s.heap.push O).push B).get? (s.heap.objs.size+1)=some B:=by
  have e:=Qo (s.heap.push O) (o:=B) (by rw [<- G];rfl)
  rw [I] at e;exact e
 have hi:((s.heap.push O).push B).get? s.heap.objs.size=some O:=Qc _ (Qo _ (by rw [<- S];rfl))
 have key:Ru { s with heap:=(s.heap.push O).push B } (.ref (s.heap.objs.size+1)) "enumerate"/\Q (.ref (s.heap.objs.size+1)) { s with heap:=(s.heap.push O).push B }:=by
  refine ⟨⟨B,W,by rw [<- G]⟩,h _ (by rw [<- G] at W ⊢;exact W) ⟨O,hi,by rw [<- S],by rw [<- S];rfl⟩ (by rw [Jo,I]) fun b o y=>Qc _ (Qc _ y)⟩
 rw [<- I] at key
 exact key
end
theorem Inv.turned2 {X:Cx}{pins:List (Addr×Obj)}{σ:St}{H:Hp}{s:Qd}{h':Heap}{t':Nat}{fp:List Addr}(I:Inv X pins σ H s)(k:∀ b o,b ∉ fp->s.heap.get? b=some o->h'.get? b=some o)(J:∀ b∈fp,Xy X pins H b) :
 Inv X pins σ H { s with heap:=h',toks:=t' }:=by
 have G:∀ b u,H b=some u->b ∉ fp:=fun b u e z=>by rw [(J b z).1] at e;cases e
 refine I.step (g':=s.gens) (d':=s.drawn) (ch:=fp) (fun b hb=>?_) (fun b o _ _ B e _=>k b o B e) (fun b o _ _ B e _=>⟨o.slots,k b o B e⟩) (fun _ _ _ _ n=>n)
  (fun b o B e=>⟨o,k b o B e⟩) (fun _ _ e=>e) (fun _ _ _ e=>e) (fun b ps e=>⟨#[],by rw [e];simp⟩) (fun m hm=>?_) (fun b u e=>?_) I.bare
 ·obtain ⟨f0,Z,f2,Y,S,f5⟩:=J b hb
  exact ⟨Y,Z,S,f5⟩
 ·obtain ⟨o,es,ep,W,r⟩:=hm
  exact ⟨o,es,ep,k _ o (fun z=>(J _ z).2.1 rfl) W,r⟩
 ·refine (I.hok b u e).stay (fun c v B q=>k c v ?_ q) (fun _ q=>q) fun _ _ q=>q
  rcases B with z | z
  ·rw [z];exact G b u e
  ·exact G c _ z
theorem ZbY {prog:Qj}{w:Qr}{A:QG}(B:A.handled=none)(z:Addr)(x:Str)(t:Tok) :
 Draws prog w A z [z] x.cps.size (fun i v=>∃ c u,x.cps[i]?=some c/\v=.str ⟨#[c]⟩ u) (fun i h=>h.IsStrIter z (GL x) x t i):=by
 cases ha:x.cps.all (· < 128)
 ·have e:GL x="str_iterator":=by simp [GL,ha]
  rw [e];exact Draws.strWide B z x t
 ·have e:GL x="str_ascii_iterator":=by simp [GL,ha]
  rw [e];exact Draws.strAscii B z x t
def Ite (x:Str):It:=⟨fun i _=>i < x.cps.size,fun i H v H'=>∃ t c,H t=none/\x.cps[i]?=some c/\v=.ref t/\H'=upd H t (.tup [.int ((i:Int)+1),.str ⟨#[c]⟩]),fun i _=>x.cps.size<=i⟩
theorem Zgi {P:Qj}{w:Qr}{K:Qa}{elts:List Expr}{x1:Nat}{tp:Pos}(x:Str)(t:Tok)(e B:Addr)(Z:e≠B) :
 Vo P w K (.Tuple elts x1 tp) (Ite x) [e,B] e (fun i h=>(∃ old,IsEnum h e B ((i:Int)+1) old)/\h.IsStrIter B (GL x) x t i/\i<=x.cps.size) where
 mem:=by simp
 obj:=fun i h st b hb=>by
  obtain ⟨⟨old,G⟩,⟨o,Y,c,d⟩,_⟩:=st
  rcases mem_cons.mp hb with q | hb
  ·rw [q];exact ⟨_,G,fun v z=>by cases z⟩
  ·rw [mem_singleton.mp hb];exact ⟨o,Y,fun v z=>by rw [d] at z;cases z⟩
 keep:=fun i h h' st k=>by
  obtain ⟨⟨old,G⟩,⟨o,Y,r⟩,hi⟩:=st
  exact ⟨⟨old,k e (by simp) _ G⟩,⟨o,k B (by simp) o Y,r⟩,hi⟩
 item:=by
  intro X hP hw hK hc i pins s σ H E I hf st hg
  subst hP hw hK
  obtain ⟨⟨old,G⟩,hs,hi⟩:=st
  have hlt:i < x.cps.size:=hg
  have D:=Zbg (ZbY (prog:=X.prog) (w:=X.w) (A:=X.A.in1) (I.ok.hd hc) B x t)
  refine TQ (i:=i+1) D (show IsEnum s.heap e B ((i+1:Nat):Int) old from G) ⟨i,rfl,hs⟩ (by omega) Z (by simpa using Z) fun v h' tk hP hOut W hT hsz hk=>?_
  obtain ⟨j,ej,c,u,hcc,rfl⟩:=hP
  have J:i=j:=by omega
  subst J
  obtain ⟨j,ej,W⟩:=W
  have J:i+1=j:=by omega
  subst J
  have hel:e < s.heap.objs.size:=Qf G
  have hil:B < s.heap.objs.size:=by obtain ⟨o,Y,_⟩:=hs;exact Qf Y
  refine ⟨_,rfl,PV hOut fun h2 he2 hs2=>?_⟩
  generalize hO:({ cls:=.type "tuple",data:=.seq #[.int ((i+1:Nat):Int) tk,.str ⟨#[c]⟩ u] }:Obj)=O at hT
  have I1:Inv X pins σ (upd H s.heap.objs.size (.tup [.int ((i:Int)+1),.str ⟨#[c]⟩])) { s with heap:=s.heap.push O,toks:=tk+1 }:=by
   refine I.laid (t':=tk+1) (fun b o y=>Qc _ y) (Qg _) (show ObjOk X.prog X.w _ _ _ (.tup _) from ⟨by show 2<=Qh;decide,[.int ((i+1:Nat):Int) tk,.str ⟨#[c]⟩ u],.cons ⟨tk,rfl⟩ (.cons ⟨u,rfl⟩ .nil),?_⟩)
   rw [<- hO];exact TH _ _
  have S:=I.hok.fresh (Qg s.heap.objs.size)
  have hf2:∀ b∈[e,B],Xy X pins (upd H s.heap.objs.size (.tup [.int ((i:Int)+1),.str ⟨#[c]⟩])) b:=fun b hb=>by
   obtain ⟨f0,f1⟩:=hf b hb
   have hb':b≠s.heap.objs.size:=by
    rcases mem_cons.mp hb with q | hb
    ·rw [q];exact Qq hel
    ·rw [mem_singleton.mp hb];exact Qq hil
   exact ⟨by rw [Zi hb'];exact f0,f1⟩
  have I2:Inv X pins σ (upd H s.heap.objs.size (.tup [.int ((i:Int)+1),.str ⟨#[c]⟩])) { s with heap:=h2,toks:=tk+1 }:=by
   refine I1.turned2 (t':=tk+1) (h':=h2) (fun b o hb y=>?_) hf2
   have hbe:b≠e:=fun q=>hb (by simp [q])
   have hbi:b≠B:=fun q=>hb (by simp [q])
   rw [hs2.2 b hbe]
   rcases Pj y with ⟨q1,q2⟩ | y
   ·rw [q1,q2];exact hT
   ·exact hk b o hbe hbi y
  refine ⟨.ref s.heap.objs.size,_,I2,rfl,⟨s.heap.objs.size,c,S,hcc,rfl,rfl⟩,⟨⟨_,he2⟩,?_,hlt⟩,fun b hb=>(hf2 b hb).1⟩
  obtain ⟨o,Y,r⟩:=W
  exact ⟨o,by rw [hs2.2 B Z.symm];exact Y,r⟩
 done:=by
  intro X hP hw hK hc i pins s σ H E I hf st hg
  subst hP hw hK
  obtain ⟨⟨old,G⟩,hs,hi⟩:=st
  have hle:x.cps.size<=i:=hg
  have D:=Zbg (ZbY (prog:=X.prog) (w:=X.w) (A:=X.A.in1) (I.ok.hd hc) B x t)
  have ei:i=x.cps.size:=by omega
  rw [ei] at hs
  obtain ⟨f0,f1,f2,f3,f4,f5⟩:=hf B (by simp)
  exact wpAny_pyNext_enum_endD D G ⟨_,rfl,hs⟩ fun h' eb=>⟨rfl,I.turned (t':=s.toks) (fun b o hb y=>eb b o hb y) f0 f1 f3 f4 f5⟩
 self:=fun _ _ _ _ _ st h=>by
  obtain ⟨⟨old,G⟩,_⟩:=st
  exact JM G h
theorem Zae {M:Rm}{A:QG}{E:Qb->Qd->Prop}{s:Qd}{pos:Pos}{T:String}{args:List (Bool×Sem Qb)}{kws:List (Option Str×Sem Qb)}{Q:Qb->Qd->Prop}
 (h1:args.any (·.1)=false) (h2:kws.any (·.1.isNone)=false)
 (h:Qp M A (evalArgs (.type T) true args kws) (fun a z=>Qp M A (call (.type T) a.pos a.kw) Q E z) E s):Qp M A (TK pos (.type T) [] args kws) Q E s:=by
 unfold TK
 refine Qe (Gf (Zu h fun a z q=>Qe (Gr ?_)))
 simp only [h1,h2,Bool.or_false]
 refine Qe (Qu (Qe (Zu q fun r B G=>?_)))
 exact Qe (Gf (wpAny_point (Qu G)))
def Zlx (tl:TE):TI:=fun σ H R=>tl σ H fun v H1=>∃ x,[v]=[V.str x]/\R (Ite x) H1
section
variable {X:Cx}
theorem ZiD {l:Expr}{tl:TE}{B:List Expr}{x1 j:Nat}{tp p pos kp kpos:Pos}(hg:Gl X "enumerate")(hm:X.mg "enumerate"=none)(hl:PE X l tl)
 (W:Qz [l] X.env=[(false,eval l X.env)]:=by rfl):PI X (.Tuple B x1 tp) (.Call (.Name "enumerate" p) [l] [⟨some "start",.Constant (.int 1) j kp,kpos⟩] pos) (Zlx tl):=by
 intro pins s σ H R I h
 have Z:PA X [l] (Xu tl Wr):=Yu hl Za W
 have hk:PK X [⟨some "start",.Constant (.int 1) j kp,kpos⟩] (Xu (tC (.int 1)) Wr):=Zkt Ze Zmr
 refine QP (Ww I hg hm boot_enumerate (Zae (by rw [W];rfl) rfl (evalArgs_kw2 rfl ?_ W)))
 refine Zu (Z pos pins s σ H (fun vs H1=>∃ x,vs=[V.str x]/\R (Ite x) H1) I h) fun us s1 ⟨vs,H1,I1,r1,x,e,q⟩=>?_
 subst e
 obtain ⟨u,rfl,t,rfl⟩:=YC r1
 refine Zu (hk pos pins s1 σ H1 (fun vs H2=>vs=[V.int 1]/\H2=H1) I1 ⟨rfl,rfl⟩) fun ws s2 ⟨zs,H2,G,r2,e1,e2⟩=>?_
 subst e1 e2
 obtain ⟨u',rfl,t',rfl⟩:=YC r2
 refine ZaH fun h' Y S hsz J=>JM Y ?_
 refine ⟨s2.heap.objs.size+1,[s2.heap.objs.size+1,s2.heap.objs.size],_,_,H2,rfl,G.kept (t':=s2.toks) J,Zgi x t _ _ (OG _),⟨⟨_,Y⟩,S,QF _⟩,fun b hb=>?_,q⟩
 rcases mem_cons.mp hb with z | hb
 ·rw [z];exact G.fpOk (GA _) (G.hok.fresh (GA _))
 ·rw [mem_singleton.mp hb];exact G.fpOk (Qg _) (G.hok.fresh (Qg _))
end
theorem Zia {x:Str}{g:TG}{tb:TS}{D:YN}{σ:St}{H:Hp}(B:Nat->St->Hp->Prop)(h0:B 0 σ H)
 (Y:∀ i c t σ H,x.cps[i]?=some c->H t=none->B i σ H->g (.ref t) σ (upd H t (.tup [.int ((i:Int)+1),.str ⟨#[c]⟩])) fun G H2=>tb { D with nx:=B (i+1),ct:=B (i+1),bk:=D.nx } G H2) (hd:∀ σ H,B x.cps.size σ H->D.nx σ H) :
 ∃ W:Nat->Nat->St->Hp->Prop,(∃ m,W 0 m σ H)/\∀ i m σ H,W i m σ H ->
  ((Ite x).stop i H/\D.nx σ H)\/((Ite x).go i H/\∃ N:St->Hp->Prop,(∀ I H',N I H'->∃ S,S < m/\W (i+1) S I H')/\∀ y H',(Ite x).yld i H y H'->g y σ H' fun G H2=>tb { D with nx:=N,ct:=N,bk:=D.nx } G H2):=by
 refine ⟨fun i m σ H=>m=x.cps.size - i/\i<=x.cps.size/\B i σ H,⟨x.cps.size,by simp,QF _,h0⟩,?_⟩
 rintro i m σ H ⟨rfl,hi,p⟩
 by_cases J:i < x.cps.size
 ·refine .inr ⟨J,B (i+1),fun I H' Z=>⟨x.cps.size - (i+1),by omega,rfl,J,Z⟩,fun y H' z=>?_⟩
  obtain ⟨t,c,e1,e2,e3,e4⟩:=z
  subst e3 e4
  exact Y i c t σ _ e2 e1 p
 ·have e:i=x.cps.size:=by omega
  subst e
  exact .inl ⟨Qg _,hd σ H p⟩
end L2
namespace L2
open PySem PySem.W PySem.Spec PyProof.Rows
def Zaf (ks:List Str)(vs out:List Qb):Prop:=∃ ps:List (Str×Qb),ps.Perm (ks.zip vs)/\out=ps.map (·.2)/\ps.Pairwise fun p q=>¬ (q.1.cps.toList < p.1.cps.toList)
theorem Zdr:∀{keys:List Qb}{ks:List Str}(_:Pb keys ks)(vs:List Qb),(keys.zip vs).map (fun p=>(strOf p.1,p.2))=ks.zip vs
 | _,_,.nil,vs=>rfl
 | _,_,.cons x t h,[]=>rfl
 | _,_,.cons x t h,v::vs=>by
  rw [List.zip_cons_cons,map_cons,Zdr h vs];rfl
theorem Zif {keys:Array Qb}{vs:List Qb}{ks:List Str}(Y:Pb keys.toList ks){xs:Array Keyed}(hp:xs.Perm (keys.zip vs.toArray))(Z:SortedToK strKind xs xs.size):Zaf ks vs (xs.map (·.2)).toList:=by
 have S:xs.toList.Perm (keys.toList.zip vs):=by
  have:=Array.perm_iff_toList_perm.mp hp
  rwa [ksk_zip] at this
 refine ⟨xs.toList.map fun p=>(strOf p.1,p.2),?_,?_,?_⟩
 ·have:=S.map fun p=>(strOf p.1,p.2)
  rwa [Zdr Y] at this
 ·rw [Array.toList_map,map_map];rfl
 ·rw [pairwise_map,List.pairwise_iff_getElem]
  intro i j hi hj I
  have J:i < xs.size:=by simpa using hi
  have G:j < xs.size:=by simpa using hj
  have z:∀ m (W:m < xs.size),KK strKind xs m=(strOf xs[m].1).cps.toList:=fun m W=>by
   have B:xs[m]∈keys.toList.zip vs:=S.mem_iff.mp (by simp)
   have h1:=(of_mem_zip (show (xs[m].1,xs[m].2)∈_ from B)).1
   obtain ⟨x,t,e⟩:=Y.all _ h1
   rw [KK_str W (x:=x) (t:=t) (q:=xs[m].2) (by rw [<- e])]
   rw [e];rfl
  have h:=Z i j (GZ I) G
  rw [z i J,z j G] at h
  simpa [KeyOrd.kle] using h
theorem ZgC {keys:Array Qb}{vs:List Qb}{ks:List Str}(z:Pb keys.toList ks):KeysOf strKind (keys.zip vs.toArray):=by
 intro p hp
 rw [ksk_zip] at hp
 obtain ⟨x,t,e⟩:=z.all _ (of_mem_zip (show (p.1,p.2)∈_ from hp)).1
 exact ⟨x.cps.toList,by rw [e]⟩
theorem ZgR {keys:Array Qb}{ks:List Str}(z:Pb keys.toList ks)(h2:2<=keys.size):keyKind' keys=pure oneType':=by
 obtain ⟨l⟩:=keys
 match l,z,h2 with
 | [],_,h2=>simp at h2
 | [_],_,h2=>simp at h2
 | v₁::v₂::r,z,_=>exact keyKind_strs z
theorem ZbX {x:Str}{t:Tok}:∀{vs:List Qb}{z:List Str},Pb vs z->Pb (vs++[.str x t]) (z++[x])
 | _,_,.nil=>.cons x t .nil
 | _,_,.cons y u h=>.cons y u (ZbX h)
section
variable {prog:Qj}{w:Qr}{A:QG}{E:Qb->Qd->Prop}{s:Qd}{a kS:Addr}{vs:List Qb}{ks:List Str}{keys:Array Qb}{e e1:Nat}{P:Rc->Qd->Prop}
theorem ZaO {st:SortSt}(nk:s.heap.get? kS=some (Gk "list" keys e))(na:s.heap.get? a=some (Gk "list" #[] e1))(Y:kS≠a)(hk:Pb keys.toList ks)(hlen:ks.length=vs.length)(h64:vs.length < 64)
 (hp:(Rv st).Perm (keys.zip vs.toArray)) (hs:SortedToK strKind (Rv st) (Rv st).size) (I:failedOf st=none)
 (h:∀ h' tk B c,(∀ b o,b≠a->b≠kS->s.heap.get? b=some o->h'.get? b=some o)->h'.get? a=some (Gk "list" B c)->Zaf ks vs B.toList->P (.done (.ret .none)) { s with heap:=h',toks:=tk }) :
 Qp (Qs prog w) A (ksk_tail a false e1 (.ref kS) st) P E s:=by
 have hsz:keys.size=vs.length:=by have:=hk.length;rw [GS] at this;omega
 have G:(Rv st).size=vs.length:=by rw [hp.size_eq,Array.size_zip,hsz,size_toArray,On]
 have s1:=Jt s.heap kS (QT fun _=>(#[]:Array Qb))
 have z:(s.heap.update kS (QT fun _=>(#[]:Array Qb))).get? a=some (Gk "list" #[] e1):=(s1.2 a Y.symm).trans na
 have s2:=Jt (s.heap.update kS (QT fun _=>(#[]:Array Qb))) a (QT fun _=>(Rv st).map (·.2))
 obtain ⟨Z,W⟩:∃ Z,((s.heap.update kS (QT fun _=>(#[]:Array Qb))).update a (QT fun _=>(Rv st).map (·.2))).get? a=some (Gk "list" ((Rv st).map (·.2)) Z):=⟨_,Sw z fun _=>(Rv st).map (·.2)⟩
 unfold ksk_tail
 try dsimp only
 refine Qe (Tt nk rfl ?_ (by rw [hsz,QZ];omega) (QF _))
 refine Qe (wpAny_letGo (Qe (seqEpoch_at z rfl ?_)))
 refine Qe (Tt z rfl ?_ (QF _) (Qw (Jq (show ((Rv st).map (·.2)).size=vs.length by rw [Array.size_map];exact G)) (by rw [QZ];omega)))
 rw [I]
 simp only [bne_self_eq_false,GD,if_false]
 exact Qu (h _ _ _ Z (fun b o S J y=>(s2.2 b S).trans ((s1.2 b J).trans y)) W (Zif hk hp hs))
theorem ZfZ (nk:s.heap.get? kS=some (Gk "list" keys e))(Z:s.heap.get? a=some (Gk "list" #[] e1))(W:kS≠a)(S:Pb keys.toList ks)(B:ks.length=vs.length)(G:vs.length < 64)
 (h:∀ h' tk J c,(∀ b o,b≠a->b≠kS->s.heap.get? b=some o->h'.get? b=some o)->h'.get? a=some (Gk "list" J c)->Zaf ks vs J.toList->P (.done (.ret .none)) { s with heap:=h',toks:=tk }) :
 Qp (Qs prog w) A (ksk_end a false vs.toArray e1 (.ref kS) keys) P E s:=by
 have hsz:keys.size=vs.length:=by have:=S.length;rw [GS] at this;omega
 have I:(keys.zip vs.toArray).size=vs.length:=by rw [Array.size_zip,hsz,size_toArray,On]
 unfold ksk_end
 simp only [GD,if_false]
 by_cases h2:vs.toArray.size < 2
 ·rw [if_pos h2,if_pos h2]
  refine Qe (Qu ?_)
  rw [StateT.run_pure]
  refine Qe (Qu ?_)
  try dsimp only
  refine ZaO (st:=SortSt.mk' general' (keys.zip vs.toArray) #[] 7 none) nk Z W S B G (Ng _) ?_ rfl h
  intro i j hij hj
  have Y:j < (keys.zip vs.toArray).size:=hj
  rw [I] at Y
  rw [size_toArray] at h2
  have:i=j:=by omega
  subst this
  exact KeyOrd.kle_refl _
 ·rw [if_neg h2,if_neg h2]
  rw [size_toArray] at h2
  rw [ZgR S (by rw [hsz];omega)]
  refine Qe (Qu (Qe (QX (wpS_sortRunsK (κ:=strKind) strKind_oneLt (a₀:=keys.zip vs.toArray) (st:=SortSt.mk' oneType' (keys.zip vs.toArray) #[] 7 none)
   (Q:=fun _ z=>(Rv z).Perm (keys.zip vs.toArray)/\failedOf z=none/\SortedToK strKind (Rv z) (keys.zip vs.toArray).size)
   (ZgC S) ⟨Ng _,rfl,rfl,rfl⟩ (by rw [I];omega) (by rw [I];exact G) fun z a1 a2 a3=>⟨a1,a2,a3⟩) ?_ fun _ _ y=>y)))
  rintro ⟨⟨⟩,z⟩ s' ⟨rfl,hp,hf,hs⟩
  try dsimp only
  exact ZaO nk Z W S B G hp (by rw [hp.size_eq];exact hs) hf h
def Zbs (prog:Qj)(w:Qr)(A:QG)(s:Qd)(a:Addr)(f:Qb)(vs:List Qb)(ks:List Str):Prop :=
 ∀ (i:Nat) (v:Qb) (k:Str),vs[i]?=some v->ks[i]?=some k->∀ (h:Heap) (tk:Nat),(∀ b o,b≠a->s.heap.get? b=some o->h.get? b=some o)->s.heap.objs.size<=h.objs.size->∀ Q':Qb->Qd->Prop,
  (∀ h' tk' t,(∀ b o,h.get? b=some o->h'.get? b=some o)->h.objs.size<=h'.objs.size->Q' (.str k t) { s with heap:=h',toks:=tk' })->Qp (Qs prog w) A (call f [v]) Q' (fun _ _=>False) { s with heap:=h,toks:=tk }
theorem ZeX {f:Qb}{s0:Qd}(Y:∃ tk,s={ s0 with heap:=s.heap,toks:=tk })(k0:∀ b o,b≠a->s0.heap.get? b=some o->s.heap.get? b=some o)(z0:s0.heap.objs.size<=s.heap.objs.size)(hkn:s0.heap.objs.size<=kS)
 (nk:s.heap.get? kS=some (Gk "list" #[] 0)) (na:s.heap.get? a=some (Gk "list" #[] e1)) (hka:kS≠a) (hlen:ks.length=vs.length) (h64:vs.length < 64) (turn:Zbs prog w A s0 a f vs ks)
 (h:∀ h' tk S c,(∀ b o,b≠a->s0.heap.get? b=some o->h'.get? b=some o)->h'.get? a=some (Gk "list" S c)->Zaf ks vs S.toList->P (.done (.ret .none)) { s0 with heap:=h',toks:=tk }) :
 Qp (Qs prog w) A (ksk_rest a f false vs.toArray e1 (.ref kS)) P E s:=by
 obtain ⟨tk0,Y⟩:=Y
 unfold ksk_rest
 refine Qe (RA ?_)
 first
  | rw [List.forIn_toArray]
  | (rw [<- Array.forIn_toList];simp only [List.toList_toArray])
 refine Qe (ksk_fold (fun i s'=>∃ h' tk G c,s'={ s0 with heap:=h',toks:=tk }/\(∀ b o,b≠a->s0.heap.get? b=some o->h'.get? b=some o)/\s0.heap.objs.size<=h'.objs.size/\h'.get? kS=some (Gk "list" G c)/\h'.get? a=some (Gk "list" #[] e1)/\Pb G.toList (ks.take i)) vs 0 s
  ⟨s.heap,tk0,#[],0,Y,k0,z0,nk,na,by simpa using StrsAre.nil⟩ ?step ?done)
 case step =>
  rintro j x s' hx ⟨h',tk,G,c,rfl,k1,z1,J,W,Z⟩
  simp only [Nat.zero_add] at Z ⊢
  have hj:j < vs.length:=(Qn.mp hx).1
  obtain ⟨k,hkj⟩:∃ k,ks[j]?=some k:=⟨_,getElem?_eq_getElem (by omega)⟩
  have hz:G.size<=vs.length:=by
   have h1:=Z.length
   rw [GS,length_take] at h1
   omega
  refine Qe (wpAny_attempt (QX (turn j x k hx hkj h' tk k1 z1 (fun v s''=>∃ g I B,v=.str k B/\s''={ s0 with heap:=g,toks:=I }/\(∀ b o,h'.get? b=some o->g.get? b=some o)/\h'.objs.size<=g.objs.size) (fun g I B q z=>⟨g,I,B,rfl,rfl,q,z⟩)) (fun v s'' he=>?_) fun _ _ hF=>hF.elim))
  obtain ⟨g,I,B,rfl,rfl,k2,z2⟩:=he
  try dsimp only
  have nk2:=k2 _ _ J
  have na2:=k2 _ _ W
  have s1:=Jt g kS (QT (·.push (.str k B)))
  obtain ⟨c2,hc2⟩:∃ c2,(g.update kS (QT (·.push (.str k B)))).get? kS=some (Gk "list" (G.push (.str k B)) c2):=⟨_,Sw nk2 (·.push (.str k B))⟩
  have ek:ks.take (j+1)=ks.take j++[k]:=by rw [Jh,hkj];simp
  have ea:(G.push (PH k B)).toList=G.toList++[PH k B]:=by simp
  refine Qe (Tt nk2 rfl ?_ (by rw [QZ];omega) (Qw (Jq (Array.size_push ..)) (by rw [QZ];omega)))
  refine Qu ⟨rfl,_,_,G.push (.str k B),c2,rfl,fun b o hb y=>?_,Qw (Qw z1 z2) (Jq (TU ..).symm),hc2,(s1.2 a hka.symm).trans na2,by rw [ea,ek];exact ZbX Z⟩
  exact (s1.2 b (fun z=>by rw [z] at y;exact absurd (Qf y) (GE.mpr hkn))).trans (k2 _ _ (k1 b o hb y))
 case done =>
  rintro s' ⟨h',tk,G,c,rfl,k1,z1,J,W,Z⟩
  have hk':Pb G.toList ks:=by
   have e3:ks.take (0+vs.length)=ks:=take_of_length_le (by omega)
   rw [e3] at Z
   exact Z
  try dsimp only
  refine Qe (listItems_at J rfl ?_)
  refine ZfZ J W hka hk' hlen h64 fun h3 tk3 S c3 k3 a3 o3=>h h3 tk3 S c3 (fun b o hb y=>k3 b o hb (fun z=>?_) (k1 b o hb y)) a3 o3
  rw [z] at y
  exact absurd (Qf y) (GE.mpr hkn)
theorem ZfW {f:Qb}{n:Nat}(S:s.heap.get? a=some (Gk "list" vs.toArray n))(G:ks.length=vs.length)(W:vs.length < 64)(I:Zbs prog w A s a f vs ks)
 (h:∀ h' tk J c,(∀ b o,b≠a->s.heap.get? b=some o->h'.get? b=some o)->h'.get? a=some (Gk "list" J c)->Zaf ks vs J.toList->P (.done (.ret .none)) { s with heap:=h',toks:=tk }) :
 Qp (Qs prog w) A (ksk_tree a f false) P E s:=by
 have Y:a < s.heap.objs.size:=Qf S
 have s1:=Jt s.heap a (QT fun _=>(#[]:Array Qb))
 obtain ⟨e1,B⟩:∃ e1,(s.heap.update a (QT fun _=>(#[]:Array Qb))).get? a=some (Gk "list" #[] e1):=⟨_,Sw S fun _=>#[]⟩
 have z:((s.heap.update a (QT fun _=>(#[]:Array Qb))).push (Gk "tuple" vs.toArray 0)).objs.size=s.heap.objs.size+1:=by rw [RN,TU]
 unfold ksk_tree
 refine Qe (listItems_at S rfl ?_)
 refine Qe (Tt S rfl ?_ (by rw [size_toArray,QZ];omega) (QF _))
 refine Qe (seqEpoch_at B rfl (Qe (wpAny_newTuple ?_ (by show vs.length<=_;rw [QZ];omega))))
 refine Qe (wpAny_newList ?_ (QF _))
 refine Gf ?_
 refine ZeX (s0:=s) (s:={ s with heap:=((s.heap.update a (QT fun _=>(#[]:Array Qb))).push (Gk "tuple" vs.toArray 0)).push (Gk "list" #[] 0) }) (kS:=((s.heap.update a (QT fun _=>(#[]:Array Qb))).push (Gk "tuple" vs.toArray 0)).objs.size)
  ⟨s.toks,rfl⟩ (fun b o Z y=>Qc _ (Qc _ ((s1.2 b Z).trans y))) ?_ (by rw [z];exact GA _) (Qo _ rfl) (Qc _ (Qc _ B)) (by rw [z];exact GI (Jj Y)) G W I h
 show s.heap.objs.size<=(((s.heap.update a _).push _).push _).objs.size
 rw [RN,z];omega
theorem ZkK {f:Qb}{l:Addr}{Q:Qb->Qd->Prop}(hl:s.heap.IsList l vs.toArray)(G:ks.length=vs.length)(S:vs.length < 64)(ht:∀ x,Ji.«list.sort» ⟨[.ref x],[(QI "key",f)]⟩=ksk_tree x f false)
 (I:∀ (h1:Heap) (W:Nat),(∀ b o,s.heap.get? b=some o->h1.get? b=some o)->s.heap.objs.size<=h1.objs.size->Zbs prog w A.in1.in1 { s with heap:=h1,toks:=W } (s.heap.objs.size+1) f vs ks)
 (h:∀ h' tk z c,(∀ b o,s.heap.get? b=some o->h'.get? b=some o)->h'.get? (s.heap.objs.size+1)=some (Gk "list" z c)->Zaf ks vs z.toList->Q (.ref (s.heap.objs.size+1)) { s with heap:=h',toks:=tk }) :
 Qp (Qs prog w) A (call (.builtin "sorted") [.ref l] [(QI "key",f)]) Q E s:=by
 refine call_function_entry_kw kind_sorted plain_sorted entry_sorted (ksk_s1 _ _) ?_
 unfold Ji.«sorted»
 refine Qe (m:=checkCount "sorted" 1 1 _) (Qu ?_)
 refine Qe (collect_list hl ?_ (by rw [QZ];omega))
 refine Qe (wpAny_newList ?_ (by rw [QZ];omega))
 generalize hg:(s.heap.push (Gk "list" #[] 0)).update s.heap.objs.size (QT (·++vs.toArray))=g
 have hsz:g.objs.size=s.heap.objs.size+1:=by rw [<- hg,TU,RN]
 have Z:∀ b o,s.heap.get? b=some o->(g.push (Gk "list" vs.toArray 0)).get? b=some o:=fun b o q=>by
  have B:b < s.heap.objs.size:=Qf q
  rw [Oo _ _ _ (by rw [hsz];exact Qq (Jj B)),<- hg,Pz _ _ _ _ (Qq B),Oo _ _ _ (Qq B)]
  exact q
 have J:(g.push (Gk "list" vs.toArray 0)).get? (s.heap.objs.size+1)=some (Gk "list" vs.toArray 0):=by rw [<- hsz];exact Qo _ rfl
 show Qp _ _ _ _ _ { s with heap:=g.push (Gk "list" vs.toArray 0) }
 rw [hsz]
 refine Qe (Gf (wpAny_call_entry_kw slot_list_sort ⟨_,J,rfl⟩ entry_list_sort ?body (ksk_l1 _ _)))
 show Qp (Qs prog w) A.in1.in1 (Ji.«list.sort» ⟨[.ref (s.heap.objs.size+1)],[(QI "key",f)]⟩) _ _ _
 rw [ht]
 have Y:s.heap.objs.size<=(g.push (Gk "list" vs.toArray 0)).objs.size:=by rw [RN,hsz];omega
 refine ZfW (s:={ s with heap:=g.push (Gk "list" vs.toArray 0) }) J G S (I (g.push (Gk "list" vs.toArray 0)) s.toks Z Y) fun h' tk z c k3 a3 o3=>⟨_,rfl,?_⟩
 exact Qu ⟨_,rfl,h h' tk z c (fun b o y=>k3 b o (Qq (Jj (Qf y))) (Z b o y)) a3 o3⟩
end
def Ux (base:Heap)(mg:Str->Option Qb):Prop:=∃ bm ob,mg "__builtins__"=some (.ref bm)/\bm≠Sc/\base.get? bm=some ob/\ob.cls=.type "module"/\ob.dict=some Sc/\ob.data=.plain
def Zfh (ts:List Addr)(H:Hp):Prop:=∀ b,H b=none\/(∃ o xs,H b=some (.frz o (.lst xs)))\/(H b=some (.tbl #[])/\b∈ts)
theorem Zhj {P:Qj}{w:Qr}{K:Qa}{mg mb:Str->Option Qb}{CX:Ur}{k:Nat}{fa a:Addr}{fd:Qi}{x:Str}{sp:Sp}{B:Qd}{vs:List Qb}{ns:List Int}{ts:List Addr}
   (KX:K.In B.heap) (hns:B.heap.Ns Qk mg) (G:B.heap.Ns Sc mb) (hbb:∀ x:Str,x≠"__name__"->mb x=Jp x) (hlim:B.heap.NoLimit) (hg:B.gens=#[]) (hbm:Ux B.heap mg)
   (ha:B.heap.get? a=some { cls:=.type "list",data:=.seq vs.toArray }) (hi:Ra vs ns) (hl:ns.length<=Qh) (hr:Room k Rb)
   (S:∀ b∈ts,B.heap.get? b=some (tabObj #[])/\K.lookup b=none/\∃ c,CodeHd B.heap c b)
   (F:∀ base:Heap,K.In base->base.Ns Qk mg->Ux base mg->FnOk P w K mg base CX k fa fd [x] sp) (hbind:∀ (s:Qd) (u:Qb),SZ s fd ⟨[u],[]⟩ [(x,u)])
   (hsp:∀ H:Hp,Zfh ts H->SqL K H a (ns.map V.int)->(∀ b∈ts,H b=some (.tbl #[]))->sp [.ref a] H (fun v _=>v=.bl true) fun _ _ _=>False)
   (hCX:∀ H e s',CX [] H B (fun _ _ _=>False) e s'->False) :
   JE (Qs P w) Rb (.call (.ref fa) ⟨[.ref a],[]⟩) (fun r s'=>r=.ok (.ret (.bool true))/\OldK B.heap s'.heap/\s'.os=B.os/\PB s'.gens) B:=by
 have rv:=ZbF hi
 have lenV:=hi.length
 have nta:a ∉ ts:=fun z=>by
   have e:=(S a z).1
   rw [ha] at e;cases e
 have Z : ∀ H:Hp,Zfh ts H->SqL K H a (ns.map V.int)->HOk P w H B.heap->(∀ b∈ts,H b=some (.tbl #[]))->(∀ b,H b≠none->b=a\/b∈ts)->(∀ b,H b≠none->K.lookup b=none) ->
     JE (Qs P w) Rb (.call (.ref fa) ⟨[.ref a],[]⟩) (fun r s'=>r=.ok (.ret (.bool true))/\OldK B.heap s'.heap/\s'.os=B.os/\PB s'.gens) B:=by
   intro H hO hS hok hT hA hK
   have I:∀ {b:Addr} {o:Obj},B.heap.get? b=some o->H b=none->(Uu B.heap H).get? b=some o:=fun y n=>Zig y n
   have free:∀ {b:Addr} {o:Obj},B.heap.get? b=some o->(∀ its n,o.data≠.seq its n)->(∀ fs,o.data≠.fields fs)->H b=none:=fun {b o} y d1 d2=>by
     cases q:H b with
     | none=>rfl
     | some u =>
       rcases hA b (by rw [q];simp) with z | z
       · subst z
         rw [ha] at y;cases y
         exact absurd rfl (d1 _ _)
       · rw [(S b z).1] at y;cases y
         exact absurd rfl (d2 _)
   have Y:∀ {b:Addr} {m:Str->Option Qb},B.heap.Ns b m->(Uu B.heap H).Ns b m:=fun {b m} ⟨o,es,ep,y,d,r⟩=>⟨o,es,ep,I y (free y (fun its n z=>by rw [d] at z;cases z) fun fs z=>by rw [d] at z;cases z),d,r⟩
   have hKb:K.In (Uu B.heap H):=fun b o y=>I (KX b o y) (by
     cases q:H b with
     | none=>rfl
     | some u=>rw [hK b (by rw [q];simp)] at y;cases y)
   have hBm:Ux (Uu B.heap H) mg:=by
     obtain ⟨bm,ob,h1,h2,h3,h4,h5,h6⟩:=hbm
     exact ⟨bm,ob,h1,h2,I h3 (free h3 (fun its n z=>by rw [h6] at z;cases z) fun fs z=>by rw [h6] at z;cases z),h4,h5,h6⟩
   have hM:Mod K mg (Uu B.heap H):=⟨hKb,Y hns,⟨mb,Y G,hbb⟩,let ⟨mc,h1,h2⟩:=hlim;⟨mc,Y h1,h2⟩⟩
   have e0:Env0 P w K mg (Uu B.heap H) Rb [] B H:=⟨rfl,hM,fun b o e=>ZkB e,Jq (Zgw _ _),trivial,fun b G=>absurd (show b∈([]:List Addr) from G) (by simp),hok,.of_eq hg⟩
   refine GK ((F _ hKb (Y hns) hBm).run Rb [] B H ⟨[.ref a],[]⟩ [.ref a] [.ref a] _ _ hr e0 (hbind B (.ref a)) (.cons rfl .nil) (hsp H hO hS hT)) fun r s' h=>?_
   cases r with
   | error e=>exact (hCX H e s' h).elim
   | ok fl =>
     cases fl with
     | next=>exact QS h
     | brk=>exact QS h
     | cont=>exact QS h
     | ret u =>
       obtain ⟨v,H',os,bare,un,hok',r',q⟩:=h
       have q':v=.bl true:=q
       subst q'
       obtain rfl:u=Sa true:=r'
       have key:∀ b o,B.heap.get? b=some o->s'.heap.get? b=some o\/(b∈ts/\∃ J:Array Qb,s'.heap.get? b=some (tabObj (#[]++J))):=fun b o y=>by
         cases q:H b with
         | none=>exact .inl (un.keep b o y q (by intro z;exact absurd (show b∈([]:List Addr) from z) (by simp)) (by simp))
         | some u =>
           rcases hO b with z | ⟨ob,xs,z⟩ | ⟨z,zt⟩
           · rw [q] at z;cases z
           · have z2:=un.frzs b ob _ z
             obtain ⟨e1,_⟩:=hok b _ z
             obtain ⟨e2,_⟩:=hok' b _ z2
             rw [y] at e1;cases e1
             exact .inl e2
           · obtain ⟨J,z2⟩:=un.tbls b #[] z
             exact .inr ⟨zt,J,show s'.heap.get? b=some { cls:=.none,data:=.fields (#[]++J) } from hok' b _ z2⟩
       refine ⟨rfl,⟨fun b o y=>?_,fun b o y=>?_⟩,os,bare⟩
       · rcases key b o y with z | ⟨zt,J,z⟩
         · exact .inl z
         · obtain ⟨t1,_,c,t3⟩:=S b zt
           rw [t1] at y;cases y
           exact .inr (.inl ⟨(t3.tab t1).isCodeTable,rfl,#[],J,rfl,z⟩)
       · rcases key b o y with z | ⟨zt,J,z⟩
         · exact ⟨_,z⟩
         · exact ⟨_,z⟩
 have okT:∀ (H:Hp) (b:Addr),b∈ts->ObjOk P w H B.heap b (.tbl #[]):=fun H b G=>(S b G).1
 cases hk:K.lookup a with
 | some o =>
   have e:=KX a o hk
   rw [ha] at e
   cases e
   refine Z (fun b=>if b∈ts then some (.tbl #[]) else none) (fun b=>?_) (.inr ⟨_,vs.toArray,_,hk,rfl,rfl,rfl,by rw [size_toArray,lenV];exact hl,by simpa using rv⟩) (fun b u z=>?_) (fun b G=>if_pos G) (fun b z=>?_) (fun b z=>?_)
   · by_cases G:b∈ts
     · exact .inr (.inr ⟨if_pos G,G⟩)
     · exact .inl (if_neg G)
   · by_cases G:b∈ts
     · have W:=(if_pos G).symm.trans z
       cases W
       exact okT _ b G
     · have W:=(if_neg G).symm.trans z
       cases W
   · by_cases G:b∈ts
     · exact .inr G
     · exact absurd (if_neg G) z
   · by_cases G:b∈ts
     · exact (S b G).2.1
     · exact absurd (if_neg G) z
 | none =>
   refine Z (fun b=>if b=a then some (.frz { cls:=.type "list",data:=.seq vs.toArray } (.lst (ns.map V.int))) else if b∈ts then some (.tbl #[]) else none) (fun b=>?_) (.inl (.inr ⟨{ cls:=.type "list",data:=.seq vs.toArray },if_pos rfl⟩)) (fun b u z=>?_)
     (fun b G=>(if_neg (fun z:b=a=>nta (by rw [<- z];exact G))).trans (if_pos G)) (fun b z=>?_) (fun b z=>?_)
   · by_cases h1:b=a
     · exact .inr (.inl ⟨_,_,if_pos h1⟩)
     · by_cases G:b∈ts
       · exact .inr (.inr ⟨(if_neg h1).trans (if_pos G),G⟩)
       · exact .inl ((if_neg h1).trans (if_neg G))
   · by_cases h1:b=a
     · have W:=(if_pos h1).symm.trans z
       cases W
       subst h1
       exact ⟨ha,by rw [length_map];exact hl,vs,_,rv,ha⟩
     · have z1:=(if_neg h1).symm.trans z
       by_cases G:b∈ts
       · have W:=(if_pos G).symm.trans z1
         cases W
         exact okT _ b G
       · have W:=(if_neg G).symm.trans z1
         cases W
   · by_cases h1:b=a
     · exact .inl h1
     · by_cases G:b∈ts
       · exact .inr G
       · exact absurd ((if_neg h1).trans (if_neg G)) z
   · by_cases h1:b=a
     · rw [h1];exact hk
     · by_cases G:b∈ts
       · exact (S b G).2.1
       · exact absurd ((if_neg h1).trans (if_neg G)) z
theorem walk_ofT {l:Sx}{n k:Nat}{q:Qj}{J:List Str}{XP:(Str->Option Qb)->Heap->Prop}{YP:Qr->Heap->Prop}{d:DefRec}{K:Params->Qa}{CX:Qr->Ur}{sp:Qr->Sp}{x:Str}{ts:List Addr}
 (hn:l.most=some n) (hn2:n<=Qh) (hdf:d.params.defaults=[]) (hr:Room k Rb)
 (hY:∀ (w:Qr) (h:Heap),YP w h->(K w.params).In h/\∀ b∈ts,h.get? b=some (tabObj #[]))
 (hK:∀ (w:Qr) (b:Addr),b∈ts->(K w.params).lookup b=none/\∃ c,codeHdIn (K w.params) c b=true)
 (F:∀ (w:Qr) (mg:Str->Option Qb) (fa:Addr) (h:Heap),(K w.params).In h->h.Ns Qk mg->mg d.name=some (.ref fa) ->
  ∃ fd:Qi,(∀ (s:Qd) (u:Qb),SZ s fd ⟨[u],[]⟩ [(x,u)]) /\
   ∀ base:Heap,(K w.params).In base->base.Ns Qk mg->Ux base mg->FnOk l.prog w (K w.params) mg base (CX w) k fa fd [x] (sp w))
 (hsp:∀ (w:Qr) (H:Hp) (a:Addr) (ns:List Int),ns.length<=n->Zfh ts H->SqL (K w.params) H a (ns.map V.int)->(∀ b∈ts,H b=some (.tbl #[]))->sp w [.ref a] H (fun v _=>v=.bl true) fun _ _ _=>False)
 (hCX:∀ (w:Qr) (H:Hp) (s:Qd) (e:Qb) (s':Qd),CX w [] H s (fun _ _ _=>False) e s'->False) :
 PySem.W.WalkO q J XP YP l.row.toRowW d [] (fun f vs=>PySem.call f vs):=by
 refine Att.attach_call hn hdf fun w s₀ S mg mb fa o pm cd doc a vs ns G Y ho hd hcd hmg Z B z hg=>?_
 obtain ⟨KX,hT⟩:=hY w _ Y
 obtain ⟨fd,hb,hF⟩:=F w mg fa _ KX G.T.g hmg
 exact Zhj (ts:=ts) KX G.T.g G.T.b G.T.builtins G.T.nolimit hg G.T.bmain Z B (Qw z hn2) hr (fun b I=>⟨hT b I,(hK w b I).1,let ⟨c,hc⟩:=(hK w b I).2;⟨c,codeHd_of_K KX hc⟩⟩) hF hb (fun H hO hS hTb=>hsp w H a ns z hO hS hTb) fun H e s'=>hCX w H S e s'
abbrev VD (apos:Pos):Arguments:={ posonlyargs:=[],args:=[{ arg:="pair",annotation:=none,pos:=apos }],vararg:=none,kwonlyargs:=[],kw_defaults:=[],kwarg:=none,defaults:=[] }
abbrev Uz (p1 p2 p3:Pos):Expr:=.Subscript (.Name "pair" p1) (.Constant (.int 0) 0 p2) p3
abbrev WR:Scope:={ kind:=.function,names:=[("pair",.local)],isGenerator:=false,isCoroutine:=false,more:=[] }
section
variable {prog:Qj}{w:Qr}{A:QG}{E:Qb->Qd->Prop}{s:Qd}
theorem Zim {q t:Addr}{qual:Str}{apos p1 p2 p3:Pos}{pm W ct k:Qb}{B:Array Qb}{Q:Qb->Qd->Prop}
 (ho:s.heap.get? q=some { cls:=.type "function",data:=.func (kla_fn "<lambda>" qual (VD apos) (Uz p1 p2 p3) WR [] pm W ct) }) (hcd:s.heap.CodeRec W qual) (Y:s.heap.NoLimit) (I:A.depth < SM)
 (ht:OS s.heap t B) (h0:B[0]?=some k)
 (hQ:∀ h' tk,(∀ b o,s.heap.get? b=some o->h'.get? b=some o)->s.heap.objs.size<=h'.objs.size->Q k { s with heap:=h',toks:=tk }) :
 Qp (Qs prog w) A (call (.ref q) [.ref t]) Q E s:=by
 refine JV (kla_callFunE (body:=Uz p1 p2 p3) I ho rfl rfl rfl rfl hcd ?_)
 refine OV (a:=[(QI "pair",Ql t)]) rfl ?_
 refine PQ rfl (fun y hy=>?_) fun env he z x=>⟨Y.keeps x.toInCall.keep,kla_codeExpr ?_⟩
 ·rw [mem_singleton.mp hy];exact .inl rfl
 have Z:=x.toInCall.ns
 obtain ⟨h1,tk1,e1⟩:=x.toInCall.same
 have G:=x.toInCall.keep
 have hfr:=x.toInCall.fresh
 have hL:=Z.lt
 have J:env.kindOf "pair"=some .local:=by rw [he];rfl
 have hm:(OT env.kindOf [(QI "pair",Ql t)] fun _=>none) "pair"=some (.ref t):=by
  rw [he];rfl
 have hsc:env.scope.kind=.function:=by rw [he];rfl
 clear x
 refine RE (Ry (Pe hsc J Z hm (Rz ?_)) (by decide))
 have ht1:OS z.heap t B:=by
  obtain ⟨o,e,r⟩:=ht
  exact ⟨o,G _ _ e,r⟩
 have fin:Q k { z with toks:=z.toks+1 }:=by
  subst e1
  exact hQ h1 (tk1+1) G (GZ (Gc hfr hL))
 have hsz:0 < B.size:=(QV.mp h0).1
 have S:OS (Shared.heap { z with toks:=z.toks+1 }) t B:=ht1
 exact JH (x:=k) S.typeIs RG.lookup
  (getItem_tuple (j:=0) (Q:=fun r s'=>r=k/\(fun v s'=>(match (Except.ok (Flow.ret v):RC) with | .ok (.ret v)=>Q v s' | .ok _=>False | .error e=>E e s')) r s') S (by decide) (by decide) (Zbr (n:=B.size) (i:=0) (j:=0) (by unfold Wz;rw [if_pos (by decide),if_pos (by omega)];rfl)).1 h0 ⟨rfl,fin⟩) rfl
theorem ZdA:∀{ts:List Addr}{us:List Qb},Vals (ts.map V.ref) us->us=ts.map Ql
 | [],_,.nil=>rfl
 | t::ts,_,.cons r h=>by
  have e:=ZdA h
  cases (show _=Ql t from r)
  rw [e];rfl
end
def ZcD (ks:List Str)(ts ts':List Addr):Prop:=∃ ps:List (Str×Addr),ps.Perm (ks.zip ts)/\ts'=ps.map (·.2)/\ps.Pairwise fun p q=>¬ (q.1.cps.toList < p.1.cps.toList)
def unR:Qb->Addr
 | .ref a=>a
 | _=>0
theorem ZkA {ks:List Str}{ts:List Addr}{z:List Qb}(h:Zaf ks (ts.map Ql) z):∃ G,z=G.map Ql/\ZcD ks ts G:=by
 obtain ⟨ps,hp,S,J⟩:=h
 have B:∀ p∈ps,p.2=Ql (unR p.2):=fun p I=>by
  have h1:=(of_mem_zip (show (p.1,p.2)∈_ from hp.mem_iff.mp I)).2
  obtain ⟨t,_,e⟩:=mem_map.mp h1
  rw [<- e];rfl
 refine ⟨ps.map fun p=>unR p.2,?_,ps.map (fun p=>(p.1,unR p.2)),?_,?_,?_⟩
 ·rw [S,map_map]
  exact Js B
 ·have h1:=hp.map fun p:Str×Qb=>(p.1,unR p.2)
  have h2:(ks.zip (ts.map Ql)).map (fun p:Str×Qb=>(p.1,unR p.2))=ks.zip ts:=by
   rw [List.zip_map_right,map_map]
   have:((fun p:Str×Qb=>(p.1,unR p.2)) ∘ Prod.map id Ql)=(id:Str×Addr->Str×Addr):=by funext p;rfl
   rw [this,List.map_id]
  rwa [h2] at h1
 ·rw [map_map];rfl
 ·rw [pairwise_map];exact J
def Zfe (c:Addr)(qual:Str):Heap->Prop:=fun h=>h.CodeRec (.ref c) qual
def LamAt (H:Hp)(Pl:Addr)(lpos:Pos)(qual:Str):Prop :=
 H Pl=some (.tbl #[])\/∃ c,H Pl=some (.tbl #[Gx lpos.line,Gx lpos.col,.ref c])/\H c=some (.ext (Zfe c qual))
theorem ZjH {P:Qj}{w:Qr}{H:Hp}{h:Heap}{c:Addr}{qual:Str}(e:h.CodeRec (.ref c) qual):ObjOk P w H h c (.ext (Zfe c qual)):=by
 obtain ⟨B,o,vs,t,z,g,r⟩:=id e
 cases z
 refine ⟨e,⟨o,g⟩,fun h1 h2 p k=>?_⟩
 obtain ⟨B,o,vs,t,z,g,r⟩:=p
 cases z
 exact ⟨_,o,vs,t,rfl,k _ g,r⟩
def Grown (Pl:Addr)(H H':Hp):Prop:=∀ b o,b≠Pl->H b=some o->H' b=some o
section
variable {X:Cx}{pins:List (Addr×Obj)}{σ:List (Option V)}{H:Hp}{s:Qd}{h':Heap}
theorem Inv.table {t':Nat}{Pl c:Addr}{ps:Array Qb}{qual:Str}{lpos:Pos}(I:Inv X pins σ H s)(G:H Pl=some (.tbl ps))(k:∀ b o,b≠Pl->s.heap.get? b=some o->h'.get? b=some o)
 (Z:h'.get? Pl=some (tabObj (ps++#[Gx lpos.line,Gx lpos.col,.ref c]))) (hc:s.heap.objs.size<=c) (hr:h'.CodeRec (.ref c) qual) :
 Inv X pins σ (upd (upd H Pl (.tbl (ps++#[Gx lpos.line,Gx lpos.col,.ref c]))) c (.ext (Zfe c qual))) { s with heap:=h',toks:=t' }:=by
 have J:H c=none:=I.hok.fresh hc
 have Y:c≠Pl:=fun z=>by rw [z,G] at J;cases J
 have W:∀ b,H b=none->b≠Pl:=fun b z e=>by rw [e,G] at z;cases z
 have B:∀ b o,b≠Pl->H b=some o->upd (upd H Pl (.tbl (ps++#[Gx lpos.line,Gx lpos.col,.ref c]))) c (.ext (Zfe c qual)) b=some o:=fun b o h1 e=>by rw [Zi (Zp e J),Zi h1];exact e
 have nL:X.env.locals≠Pl:=W _ I.free
 refine I.step (g':=s.gens) (d':=s.drawn) (ch:=[]) (fun _ z=>nomatch z) (fun b o _ _ _ e n=>k b o (W b n) e) (fun b o _ _ _ e n=>⟨o.slots,k b o (W b n) e⟩) (fun b o _ e n=>?_) (fun b o _ e=>?_)
  (fun b xs e=>B b _ (fun z=>by rw [z,G] at e;cases e) e) (fun b o u e=>B b _ (fun z=>by rw [z,G] at e;cases e) e) (fun b qs e=>?_) (fun m hm=>?_) (fun b u e=>?_) I.bare
 ·rw [Zi (fun z=>by rw [z] at e;exact absurd (Qf e) (GE.mpr hc)),Zi (W b n)];exact n
 ·by_cases S:b=Pl
  ·exact ⟨_,by rw [S];exact Z⟩
  ·exact ⟨o,k b o S e⟩
 ·by_cases S:b=Pl
  ·rw [S,G] at e
   cases e
   exact ⟨#[Gx lpos.line,Gx lpos.col,.ref c],by rw [S,Zi Y.symm,Zh]⟩
  ·exact ⟨#[],by rw [B b _ S e];simp⟩
 ·obtain ⟨o,es,ep,ho,r⟩:=hm
  exact ⟨o,es,ep,k _ o nL ho,r⟩
 ·by_cases h1:b=c
  ·subst h1
   rw [Zh] at e
   cases e
   exact ZjH hr
  ·rw [Zi h1] at e
   by_cases h2:b=Pl
   ·subst h2
    rw [Zh] at e
    cases e
    exact Z
   ·rw [Zi h2] at e
    refine (I.hok b u e).stay (fun d v hd y=>k d v ?_ y) (fun d y=>B d _ (fun z=>by rw [z,G] at y;cases y) y) fun d xs y=>B d _ (fun z=>by rw [z,G] at y;cases y) y
    rcases hd with z | z
    ·rw [z];exact h2
    ·exact fun z2=>by rw [z2,G] at z;cases z
theorem ZhX {A:QG}{E:Qb->Qd->Prop}{Q:Qb->Qd->Prop}{c Pl:Addr}{apos p1 p2 p3 lpos:Pos}(I:Inv X pins σ H s)(G:X.env.code=.ref c)(C:codeHdIn X.K c Pl=true)(hBm:Ux X.base X.mg)(hL:LamAt H Pl lpos (X.env.qual++"<lambda>"))
 (h:∀ (q:Addr) (H':Hp) (s':Qd) (pm cdv ct:Qb),Inv X pins σ H' s'->Grown Pl H H'->LamAt H' Pl lpos (X.env.qual++"<lambda>")->s'.heap.get? q=some { cls:=.type "function",data:=.func (kla_fn "<lambda>" (X.env.qual++"<lambda>") (VD apos) (Uz p1 p2 p3) WR [] pm cdv ct) } ->
  s'.heap.CodeRec cdv (X.env.qual++"<lambda>")->Q (.ref q) s') :
 Qp (Qs X.prog X.w) A (eval (.Lambda (VD apos) (Uz p1 p2 p3) WR lpos) X.env) Q E s:=by
 rw [arm_eval_Lambda]
 refine Qe (m:=evalAll []) (Od (Qe (Gf (m:=evalAllOpt []) (OV (a:=[]) rfl ?_))))
 have hcl:closureFor WR X.env=pure []:=rfl
 have hg:=I.mod.glob.keeps I.bk
 have CH:=codeHd_of_K I.kIn C
 have tab:∀ ps,H Pl=some (.tbl ps)->s.heap.get? Pl=some (tabObj ps):=fun ps e=>I.hok Pl _ e
 have W:∀ ps,s.heap.get? Pl=some (tabObj ps)->s.heap.BuiltinsAt X.mg Pl/\Qk≠Pl:=fun ps e=>by
  obtain ⟨bm,ob,b1,b2,b3,b4,b5,b6⟩:=hBm
  have S:=I.bk _ _ b3
  have hmg:Qk≠Pl:=fun z=>by
   obtain ⟨o,es,ep,y,hd,_⟩:=hg
   rw [z,e] at y;cases y;cases hd
  refine ⟨⟨bm,ob,b1,b2,fun z=>?_,(fun z=>by rw [z,e] at S;cases S;cases b4),S,b4,b5,b6⟩,hmg⟩
  obtain ⟨o,es,ep,y,hd,_⟩:=hg
  rw [<- z,S] at y;cases y
  rw [b6] at hd;cases hd
 rcases hL with e | ⟨J,e,ec⟩
 ·have hP:=tab _ e
  obtain ⟨hb,hgP⟩:=W _ hP
  refine kla_makeFunction (clos:=[]) hcl I.ok.glob hg G CH hP trivial rfl hgP hb fun J Y h' tk hx hge hlt B hT=>?_
  have I1:=I.table (t':=tk) (h':=h') (qual:=X.env.qual++"<lambda>") (lpos:=lpos) e (fun b o hb' y=>hx b o hb' y) hT hge B
  have Z:H J=none:=I.hok.fresh hge
  have hcP:J≠Pl:=fun z=>by rw [z,e] at Z;cases Z
  refine h _ _ _ ((X.mg "__name__").getD .none) (.ref J) Y (I1.kept (t':=tk) fun b o y=>Qc _ y) (fun b o h1 y=>by rw [Zi (Zp y Z),Zi h1];exact y) (.inr ⟨J,by rw [Zi hcP.symm,Zh];rfl,Zh⟩) (Qo _ rfl) (B.push _)
 ·have hP:=tab _ e
  obtain ⟨hb,hgP⟩:=W _ hP
  have B:s.heap.CodeRec (.ref J) (X.env.qual++"<lambda>"):=(I.hok J _ ec).1
  refine kla_makeFunctionHit (clos:=[]) (cv:=.ref J) hcl I.ok.glob hg G CH hP trivial (by simp [codeAmong,Gx]) hb fun Y h' tk hk hz=>?_
  exact h _ _ _ ((X.mg "__name__").getD .none) (.ref J) Y ((I.kept (h':=h') (t':=tk) hk).kept (t':=tk) fun b o y=>Qc _ y) (fun b o _ y=>y) (.inr ⟨J,e,ec⟩) (Qo _ rfl) ((B.keeps hk).push _)
end
def Znb (Pl:Addr)(lpos:Pos)(qual:Str)(te:TE):TE:=fun σ H Q=>te σ H fun x H1=>∃(l:Addr)(ts:List Addr)(ks:List Str),[x]=[.ref l]/\H1 l=some (.lst (ts.map V.ref))/\ts.length < 64/\ks.length=ts.length /\
 (∀ (i:Nat) (t:Addr) (k:Str),ts[i]?=some t->ks[i]?=some k->∃ vs,H1 t=some (.tup (.str k::vs)))/\LamAt H1 Pl lpos qual /\
 ∀ (H2:Hp) (r:Addr) (ts':List Addr),Grown Pl H1 H2->LamAt H2 Pl lpos qual->H2 r=none->ZcD ks ts ts'->Q (.ref r) (upd H2 r (.lst (ts'.map V.ref)))
section
variable {X:Cx}
theorem ZdN {k:Nat}{e:Expr}{te:TE}{apos p1 p2 p3 lpos kpos p pos:Pos}{c Pl:Addr}(hg:Gl X "sorted")(hm:X.mg "sorted"=none)(he:PE X e te)(hr:Room k X.A)(S:X.env.code=.ref c)(C:codeHdIn X.K c Pl=true)(hBm:Ux X.base X.mg)
 (hs:Qz [e] X.env=[(false,eval e X.env)]:=by rfl):PE X (.Call (.Name "sorted" p) [e] [⟨some "key",.Lambda (VD apos) (Uz p1 p2 p3) WR lpos,kpos⟩] pos) (Znb Pl lpos (X.env.qual++"<lambda>") te):=by
 intro pins s σ H Q I h
 have ha:PA X [e] (Xu te Wr):=Yu he Za hs
 refine QP (Ww I hg hm boot_sorted (callWith_kw ?_ (by rw [hs];rfl) (by rw [hs];rfl) rfl rfl))
 refine Zu (ha pos pins s σ H (fun xs H1=>∃ (l:Addr) (ts:List Addr) (ks:List Str),xs=[V.ref l]/\H1 l=some (.lst (ts.map V.ref))/\ts.length < 64/\ks.length=ts.length /\
  (∀ (i:Nat) (t:Addr) (k:Str),ts[i]?=some t->ks[i]?=some k->∃ vs,H1 t=some (.tup (.str k::vs)))/\LamAt H1 Pl lpos (X.env.qual++"<lambda>") /\
  ∀ (H2:Hp) (r:Addr) (B:List Addr),Grown Pl H1 H2->LamAt H2 Pl lpos (X.env.qual++"<lambda>")->H2 r=none->ZcD ks ts B->Q (.ref r) (upd H2 r (.lst (B.map V.ref)))) I h) fun us s1 ⟨vs,H1,I1,r1,q1⟩=>?_
 obtain ⟨l,ts,ks,rfl,el,h64,W,Z,hL,q⟩:=q1
 obtain ⟨u,rfl,ru⟩:=YC r1
 cases ru
 refine kws_cons (ZhX I1 S C hBm hL fun fq H2 s2 pm cdv ct I2 gr hL2 hfo Y=>kws_nil ?_)
 have nl:l≠Pl:=fun z=>by
  rw [z] at el
  rcases hL with y | ⟨_,y,_⟩<;>(rw [el] at y;cases y)
 have el2:=gr l _ nl el
 obtain ⟨its,rv,pl,hz⟩:=I2.list (SqL.of el2)
 have hits:=ZdA rv
 subst hits
 have J:∀ (i:Nat) (t:Addr) (k:Str),ts[i]?=some t->ks[i]?=some k->∃ its':Array Qb,OS s2.heap t its'/\∃ tk,its'[0]?=some (.str k tk):=fun i t k h1 h2=>by
  obtain ⟨vs,ev⟩:=Z i t k h1 h2
  have nt:t≠Pl:=fun z=>by
   rw [z] at ev
   rcases hL with y | ⟨_,y,_⟩<;>(rw [ev] at y;cases y)
  obtain ⟨_,itv,rv',pt⟩:=(show ObjOk X.prog X.w H2 s2.heap t (.tup (.str k::vs)) from I2.hok t _ (gr t _ nt ev))
  cases rv' with
  | cons r rr =>
   obtain ⟨tk,e⟩:=r
   exact ⟨_,pt,tk,by rw [e];rfl⟩
 refine ZkK (vs:=ts.map Ql) (ks:=ks) pl.isList (by rw [length_map];exact W) (by rw [length_map];exact h64) (fun x=>ksk_t1 fq x) (fun h1 tk1 k1 z1=>?_) fun h' tk out cc k3 a3 o3=>?_
 ·intro i v k hv hk h2 tk2 k2 z2 Q' hQ'
  rw [getElem?_map] at hv
  cases ht:ts[i]? with
  | none=>rw [ht] at hv;cases hv
  | some t =>
   rw [ht] at hv
   cases (show some (Ql t)=some v from hv)
   obtain ⟨its',pt,tk',e0⟩:=J i t k ht hk
   have kp:∀ b o,s2.heap.get? b=some o->h2.get? b=some o:=fun b o y=>k2 b o (Qq (Jj (Qf y))) (k1 b o y)
   have pt2:OS h2 t its':=by
    obtain ⟨o,eo,r⟩:=pt
    exact ⟨o,kp _ _ eo,r⟩
   exact Zim (s:={ s2 with heap:=h2,toks:=tk2 }) (kp _ _ hfo) (Y.keeps kp) (I2.nolimit.keeps kp) (show X.A.depth < SM by have:=hr.dp;omega) pt2 e0 fun h3 tk3 k3 z3=>hQ' h3 tk3 tk' k3 z3
 ·obtain ⟨B,G,hT⟩:=ZkA o3
  have rv2:Vals (B.map V.ref) out.toList:=by
   rw [G]
   clear G hT o3
   induction B with
   | nil=>exact .nil
   | cons t r ih=>exact .cons rfl ih
  have hl2:(B.map V.ref).length<=sizeLine:=by
   obtain ⟨ps,hp,e,_⟩:=hT
   have:=hp.length_eq
   rw [Px] at this
   rw [length_map,e,length_map,this]
   exact ZfL (by omega)
  exact ⟨.ref _,_,I2.laid (t':=tk) k3 (GA _) (show ObjOk X.prog X.w _ h' _ (.lst (B.map V.ref)) from ⟨hl2,out.toList,cc,rv2,by rw [SU];exact a3⟩),rfl,q H2 _ B gr hL2 (I2.hok.fresh (GA _)) hT⟩
end
theorem Zat:QU (.type "tuple") "keys"=pure none:=am_miss_of_fast (by decide +kernel)
section
variable {prog:Qj}{w:Qr}{A:QG}{E:Qb->Qd->Prop}{s:Qd}
theorem Zgt {a:Addr}{xs:Array Qb}{k:Nat}{I:Array (Option Qb)}{Q:Option Qb->Qd->Prop}(J:s.heap.get? a=some { cls:=.type "tuple",dict:=none,data:=.seq xs k,slots:=I })(S:A.handled=none)
 (h:∀ h' tk,(∀ b o,s.heap.get? b=some o->h'.get? b=some o)->Q none { s with heap:=h',toks:=tk }):Qp (Qs prog w) A (getAttr? (.ref a) "keys") Q E s:=by
 obtain ⟨hp,g,d,tk,os⟩:=s
 have G:∀ z,(⟨hp,g,d,z,os⟩:Qd).TypeIs (.ref a) "tuple":=fun _=>⟨_,J,rfl⟩
 have f1:=sub_AttributeError
 have Y:=PZ.lookup
 have W:=PZ.bind (.ref a)
 have f5:=am_tuple_getattr_none
 unfold getAttr? getAttrBy? getAttrBy
 repeat (any_goals first | assumption | exact G _ | ((with_reducible show Qp _ _ (call (Jw "tuple.__getattribute__") _ _) _ _ _);refine PR F.slot_tuple_getattribute (G _) am_entry_tuple_getattribute (F.args_tuple_getattribute_2 _ _) (meets_getattribute_miss_tuple a xs k I "keys" _ Zat (by decide) (by decide)) ⟨J,S,fun h' z e B=>?_⟩) | wp_step)
 obtain ⟨t',Z,he⟩:=B.there
 show Qp _ _ (RO _ _ _ _ _ _ _) _ _ _
 unfold RO
 repeat (any_goals first | assumption | wp_step)
 all_goals exact h _ _ B.keeps
theorem UG:entryFor table "dict.update.loop"=some Ji.«dict.update.loop»:=entryFor_of_tree (by kernel_rfl)
theorem Xw:plainId "dict.update.loop"=true:=by decide +kernel
end
section
variable {prog:Qj}{w:Qr}{A:QG}{R:RC->Qd->Prop}
def PairAt (prog:Qj)(w:Qr)(h:Heap)(v:Qb)(p:Zn×Qb):Prop:=∃ tt key,v=.ref tt/\OS h tt #[key,p.2]/\(ZQ prog w).is p.1 key=true
theorem PairAt.keep {h h':Heap}{v:Qb}{p:Zn×Qb}(x:PairAt prog w h v p)(k:∀ b o,h.get? b=some o->h'.get? b=some o):PairAt prog w h' v p:=by
 obtain ⟨G,key,e,⟨o,B,r⟩,z⟩:=x
 exact ⟨G,key,e,⟨o,k _ _ B,r⟩,z⟩
theorem PairAt.but {h h':Heap}{v:Qb}{p:Zn×Qb}{d:Addr}{o:Obj}(x:PairAt prog w h v p)(S:h.get? d=some o)(J:o.cls≠.type "tuple")(k:∀ b o,b≠d->h.get? b=some o->h'.get? b=some o):PairAt prog w h' v p:=by
 obtain ⟨G,key,e,⟨I,B,c,r⟩,z⟩:=x
 refine ⟨G,key,e,⟨I,k _ _ (fun y=>?_) B,c,r⟩,z⟩
 rw [y,S] at B
 cases B
 exact J c
theorem ZhP {d I t:Addr}{B:Array Qb}(ps:List (Zn×Qb))(hlen:ps.length=B.size)(hnd:(ps.map (·.1)).Nodup)(hsz:ps.length<=Qh)(hh:A.handled=none)(hIt:I≠t)(hId:I≠d) :
 ∀ (k i:Nat) (s:Qd) (n:Int) (tk:Tok),ps.length - i=k->i<=ps.length->s.heap.IsTupleIter I t i->s.heap.IsTuple t B->(∀ (j:Nat) (v:Qb) (p:Zn×Qb),B[j]?=some v->ps[j]?=some p->PairAt prog w s.heap v p)->s.heap.DictOf (ZQ prog w) d (ps.take i) ->
 (∀ h' tk',(∀ b o,b≠I->b≠d->s.heap.get? b=some o->h'.get? b=some o)->h'.DictOf (ZQ prog w) d ps->R (.ok (.ret .none)) { s with heap:=h',toks:=tk' }) ->
 JE (Qs prog w) A (.builtin "dict.update.loop" ⟨[.ref d,.ref I,.int n tk,.none],[]⟩) R s:=by
 have W:=Walks.tuple (prog:=prog) (w:=w) (A:=A.in1) hh I t hIt.symm B
 intro k
 induction k with
 | zero =>
  intro i s n tk hk hi Y htp hpr hd hR
  have hin:i=B.size:=by omega
  refine Pw UG ?_
  rw [SV Xw _]
  show Qp _ A.in1 (pyNext (.ref I) >>= _) _ _ s
  refine Qe (W.done s _ _ ⟨by rw [<- hin];exact Y,htp⟩ fun h' tk' kk=>?_)
  show Qp _ _ (Builtin.Dict.addKeywords d [] >>= _) _ _ _
  refine Qe (Qu (Qu (hR h' tk' (fun b o h1 _ y=>kk b o (by simpa using h1) y) ?_)))
  rw [take_of_length_le (by omega)] at hd
  obtain ⟨o,es,ep,J,r⟩:=hd
  exact ⟨o,es,ep,kk d o (by simpa using hId.symm) J,r⟩
 | succ k ih =>
  intro i s n tk hk hi Y htp hpr hd hR
  have hlt:i < B.size:=by omega
  refine Pw UG ?_
  rw [SV Xw _]
  show Qp _ A.in1 (pyNext (.ref I) >>= _) _ _ s
  refine Qe (W.item i s _ _ hlt ⟨Y,htp⟩ fun v h1 tk1 hv st1 kk=>?_)
  obtain ⟨hit1,htp1⟩:=st1
  have hI0:∃ o,s.heap.get? I=some o/\o.cls≠.type "tuple":=by
   obtain ⟨o,J,c,_⟩:=Y
   exact ⟨o,J,by rw [c];decide⟩
  have Z:∀ (j:Nat) (v:Qb) (p:Zn×Qb),B[j]?=some v->ps[j]?=some p->PairAt prog w h1 v p:=fun j v p a b=>by
   obtain ⟨o,J,c⟩:=hI0
   exact (hpr j v p a b).but J c fun b o hb y=>kk b o (by simpa using hb) y
  obtain ⟨p,hp⟩:∃ p,ps[i]?=some p:=⟨_,getElem?_eq_getElem (by omega)⟩
  have hv':B[i]?=some v:=hv
  obtain ⟨tt,key,rfl,⟨ot,J,oc,on,od⟩,hkey⟩:=Z i v p hv' hp
  have hd1:h1.DictOf (ZQ prog w) d (ps.take i):=by
   obtain ⟨o,es,ep,J,r⟩:=hd
   exact ⟨o,es,ep,kk d o (by simpa using hId.symm) J,r⟩
  have hT:Ru { s with heap:=h1,toks:=tk1 } (.ref tt) "tuple":=⟨ot,J,oc⟩
  have hnew:stored (ps.take i) p.1 p.2=ps.take (i+1):=by
   have hni:p.1 ∉ (ps.take i).map (·.1):=fun z=>by
    have e1:(ps.map (·.1))=(ps.take i).map (·.1)++(ps.drop i).map (·.1):=by rw [<- map_append,List.take_append_drop]
    rw [e1,Tj] at hnd
    refine hnd.2.2 _ z _ (mem_map.mpr ⟨p,?_,rfl⟩) rfl
    exact mem_of_getElem? (i:=0) (by rw [RM];simpa using hp)
   unfold stored
   rw [if_neg,Jh,hp]
   ·rfl
   ·intro z
    obtain ⟨q,hq,e⟩:=List.any_eq_true.mp z
    exact hni (mem_map.mpr ⟨q,hq,by simpa using e⟩)
  show Qp _ A.in1 (JB [.ref tt] _ >>= _) _ _ _
  refine Qe (Gf ?_)
  refine Qe (wpAny_tryCatch ?_)
  unfold Builtin.Dict.pairItems
  refine Qe (Op hT ?_)
  rw [if_pos (by decide)]
  refine Qe (wpAny_seqItems J od (Qu ?_))
  show Qp _ _ (JB [key,p.2] (dictSet d key p.2)) _ _ _
  refine Gf (wpAny_dictSet_pairs hkey hd1 (fun h2 hd2 S=>?_) (Qw (by rw [length_take];omega) hsz))
  rw [hnew] at hd2
  refine Qu ⟨plainId_quiet Xw _,ih (i+1) _ (n+1) _ (by omega) (by omega) ?_ ?_ ?_ hd2 ?_⟩
  ·obtain ⟨o,G,r⟩:=hit1
   exact ⟨o,(S.2 I hId).trans G,r⟩
  ·obtain ⟨o,G,r⟩:=htp1
   refine ⟨o,(S.2 t (fun z=>?_)).trans G,r⟩
   obtain ⟨o',es,ep,eo2,c2,_⟩:=hd1
   rw [z,eo2] at G
   cases G
   rw [c2.1] at r
   exact absurd r.1 (by decide)
  ·intro j v p a b
   obtain ⟨o',es,ep,eo2,c2,_⟩:=hd1
   exact (Z j v p a b).but eo2 (by rw [c2.1];decide) fun b o hb y=>(S.2 b hb).trans y
  ·intro h3 tk3 k3 hd3
   exact hR h3 tk3 (fun b o h4 h5 y=>k3 b o h4 h5 ((S.2 b h5).trans (kk b o (by simpa using h4) y))) hd3
end
section
variable {prog:Qj}{w:Qr}{A:QG}{E:Qb->Qd->Prop}{s:Qd}
theorem Zcf {t:Addr}{z:Array Qb}{Q:Qb->Qd->Prop}(ps:List (Zn×Qb))(ht:OS s.heap t z)(hnd0:∃ o,s.heap.get? t=some o/\o.dict=none)(Z:ps.length=z.size)(hnd:(ps.map (·.1)).Nodup)(hsz:ps.length<=Qh)(hh:A.handled=none)
 (hpr:∀ (j:Nat) (v:Qb) (p:Zn×Qb),z[j]?=some v->ps[j]?=some p->PairAt prog w s.heap v p)
 (h:∀ h' W,(∀ b o,s.heap.get? b=some o->h'.get? b=some o)->h'.DictOf (ZQ prog w) s.heap.objs.size ps->Q (.ref s.heap.objs.size) { s with heap:=h',toks:=W }) :
 Qp (Qs prog w) A (call (.type "dict") [.ref t]) Q E s:=by
 refine callType_codes (Q₁:=fun obj I=>obj=.ref s.heap.objs.size/\I={ s with heap:=s.heap.push { cls:=.type "dict",data:=.dict #[] } }) F.kt_called_dict (F.kt_typeCall_dict_1 _) F.entry_dict_init (kt_code_dict_new _ ⟨rfl,rfl⟩) ?_
 rintro obj I ⟨rfl,rfl⟩
 have B:(s.heap.push { cls:=.type "dict",data:=.dict #[] }).DictOf (ZQ prog w) s.heap.objs.size []:=Nb s.heap
 have tlt:t < s.heap.objs.size:=by obtain ⟨o,J,_⟩:=ht;exact Qf J
 obtain ⟨ot,G,oct,on,odt⟩:=id ht
 obtain ⟨o2,eo2,Y⟩:=hnd0
 rw [G] at eo2
 cases eo2
 refine ⟨B.typeIs,F.args_dict_init_2 _ _,?_⟩
 unfold Ji.«dict.__init__»
 refine Qe ?_
 unfold Builtin.Dict.selfAndRest
 refine Qe (wpAny_notOrdered_dict B.typeIs ?_)
 show Qp _ _ (pure (s.heap.objs.size,[Ql t])) _ _ _
 refine Qu ?_
 show Qp _ _ (TV "dict.__init__" s.heap.objs.size (.ref t) [] .none) _ _ _
 unfold TV
 have hT:Ru { s with heap:=s.heap.push { cls:=.type "dict",data:=.dict #[] } } (.ref t) "tuple":=⟨ot,Qc _ G,oct⟩
 refine Qe (Op hT ?_)
 rw [if_pos (by decide)]
 obtain ⟨c0,d0,dt0,sl0⟩:=ot
 have e1:c0=.type "tuple":=oct
 have e2:d0=none:=Y
 have e3:dt0=.seq z on:=odt
 subst e1 e2 e3
 refine Qe (Zgt (s:={ s with heap:=s.heap.push { cls:=.type "dict",data:=.dict #[] } }) (Qc _ G) hh fun h1 tk1 k1=>?_)
 rw [if_pos (show (none:Option Qb).isNone=true from rfl)]
 have S:=k1 _ _ (Qc { cls:=.type "dict",data:=.dict #[] } G)
 have hd1:h1.DictOf (ZQ prog w) s.heap.objs.size []:=by
  obtain ⟨o,es,ep,J,r⟩:=B
  exact ⟨o,es,ep,k1 _ _ J,r⟩
 have dlt:s.heap.objs.size < h1.objs.size:=by obtain ⟨o,es,ep,J,r⟩:=hd1;exact Qf J
 refine Qe (RA (Qe (RB (items:=z) ⟨_,S,rfl,on,rfl⟩ ?_)))
 refine Qu ⟨plainId_quiet Xw _,ZhP (A:=A.in1) ps Z hnd hsz hh (GI (Qf S)) (GI dlt) ps.length 0 _ 0 _ (by omega) (QF _) ⟨_,Qo _ rfl,rfl,rfl⟩ ⟨_,Qc _ S,rfl,on,rfl⟩ ?_ ?_ ?_⟩
 ·intro j v p a b
  exact (hpr j v p a b).keep fun b o y=>Qc _ (k1 _ _ (Qc _ y))
 ·obtain ⟨o,es,ep,J,r⟩:=hd1
  exact ⟨o,es,ep,Qc _ J,r⟩
 ·intro h' W k3 hd3
  refine ⟨rfl,h h' W (fun b o y=>?_) hd3⟩
  have y1:=k1 _ _ (Qc { cls:=.type "dict",data:=.dict #[] } y)
  exact k3 b o (Qq (Qf y1)) (Qq (Qf y)) (Qc _ y1)
end
section
variable {X:Cx}
theorem Um (hc:X.calm=true):YD X (.type "dict") (fun xs H Q=>∃ (t:Addr) (ts:List Addr) (kvs:List (Str×V)),xs=[.ref t]/\(∃ o,H t=some (.frz o (.tup (ts.map V.ref)))/\o.dict=none)/\ts.length=kvs.length/\kvs.length<=1000 /\
   (∀ (i:Nat) (a:Addr) (p:Str×V),ts[i]?=some a->kvs[i]?=some p->H a=some (.tup [.str p.1,p.2]))/\(kvs.map (·.1)).Nodup/\∀ d,H d=none->Q (.ref d) (upd H d (.dK (kvs.map fun p=>(QL p.1,p.2))))):=by
 intro pins s σ H xs us Q I r h
 obtain ⟨t,ts,kvs,rfl,⟨J,Y,hdn⟩,z,hsz,hp,hnd,q⟩:=h
 have hq:SqT X.K H t (ts.map V.ref):=.inl (.inr ⟨J,Y⟩)
 have eo0:=(I.hok t _ Y).1
 obtain ⟨u,rfl,ru⟩:=YC r
 cases ru
 obtain ⟨its,rv,pt,hz⟩:=I.tuple hq
 have Z:=ZdA rv
 subst Z
 have B:∀ (kvs:List (Str×V)) (ts:List Addr),ts.length=kvs.length->(∀ (i:Nat) (a:Addr) (p:Str×V),ts[i]?=some a->kvs[i]?=some p->H a=some (.tup [.str p.1,p.2])) ->
     ∃ ps:List (Zn×Qb),KV (kvs.map fun p=>((QL p.1:Zn),p.2)) ps/\ps.length=kvs.length/\ps.map (·.1)=kvs.map (fun p=>(QL p.1:Zn))/\∀ (j:Nat) (v:Qb) (p:Zn×Qb),(ts.map Ql)[j]?=some v->ps[j]?=some p->PairAt X.prog X.w s.heap v p:=by
   intro kvs
   induction kvs with
   | nil=>intro ts _ _;exact ⟨[],.nil,rfl,rfl,fun j v p _ e=>by simp at e⟩
   | cons kv r ih =>
     intro ts hl hh
     cases ts with
     | nil=>simp at hl
     | cons a ar =>
       obtain ⟨ps,k1,k2,k3,k4⟩:=ih ar (by simpa using hl) fun i b p e1 G=>hh (i+1) b p (by simpa using e1) (by simpa using G)
       obtain ⟨_,itv,rv',pa⟩:=(show ObjOk X.prog X.w H s.heap a (.tup [.str kv.1,kv.2]) from I.hok a _ (hh 0 a kv rfl rfl))
       cases rv' with
       | cons r1 rr =>
         cases rr with
         | cons r2 rr =>
           cases rr
           obtain ⟨tk,e⟩:=r1
           subst e
           rename_i u2
           refine ⟨(QL kv.1,u2)::ps,.cons ⟨rfl,r2⟩ k1,by rw [length_cons,length_cons,k2],by rw [map_cons,map_cons,k3],fun j v p e1 G=>?_⟩
           cases j with
           | zero =>
             cases (show some (Ql a)=some v from e1)
             cases (show some ((QL kv.1:Zn),u2)=some p from G)
             exact ⟨a,.str kv.1 tk,rfl,pa,VU _ _ _ _⟩
           | succ j=>exact k4 j v p (by simpa using e1) (by simpa using G)
 obtain ⟨ps,k1,k2,k3,k4⟩:=B kvs ts z hp
 have S:(ps.map (·.1)).Nodup:=by
   rw [k3]
   have:kvs.map (fun p=>(QL p.1:Zn))=(kvs.map (·.1)).map Sum.inr:=by rw [map_map];rfl
   rw [this]
   rw [List.Nodup,pairwise_map]
   exact hnd.imp fun h e=>h (by cases e;rfl)
 refine Zcf ps pt ⟨J,eo0,hdn⟩ (by rw [k2,size_toArray,length_map,z]) S (by rw [k2];exact ZfL hsz) (I.ok.hd hc) (fun j v p e1 G=>k4 j v p (by simpa using e1) G) fun h' tk' kk hd=>?_
 have W:=I.big
 refine ⟨.ref s.heap.objs.size,_,I.laid (t':=tk') kk (Qg _) (show ObjOk X.prog X.w _ h' _ (.dK (kvs.map fun p=>((QL p.1:Zn),p.2))) from ⟨by rw [length_map];exact ZfL hsz,?_,ps,k1,hd⟩),rfl,q _ (I.hok.fresh (Qg _))⟩
 exact beq_eq_false_iff_ne.mpr (GI W)
end
section
variable {X:Cx}{pins:List (Addr×Obj)}{σ:List (Option V)}{H H':Hp}{s:Qd}{h':Heap}
theorem Inv.many {t':Nat}(I:Inv X pins σ H s)(k:∀ b u,s.heap.get? b=some u->h'.get? b=some u)(ext:Same H H')(new:∀ b,b < s.heap.objs.size->H' b=H b)(hok:∀ b o,s.heap.objs.size<=b->H' b=some o->ObjOk X.prog X.w H' h' b o) :
 Inv X pins σ H' { s with heap:=h',toks:=t' }:=by
 refine I.step (g':=s.gens) (d':=s.drawn) (ch:=[]) (fun _ z=>nomatch z) (fun b o _ _ _ e _=>k b o e) (fun b o _ _ _ e _=>⟨o.slots,k b o e⟩) (fun b o _ e n=>by rw [new b (Qf e)];exact n) (fun b o _ e=>⟨o,k b o e⟩)
  (fun b xs e=>ext b _ e) (fun b o u e=>ext b _ e) (fun b ps e=>⟨#[],by rw [ext b _ e];simp⟩) (fun m G=>?_) (fun b u e=>?_) I.bare
 ·obtain ⟨o,es,ep,J,r⟩:=G
  exact ⟨o,es,ep,k _ o J,r⟩
 ·by_cases B:b < s.heap.objs.size
  ·rw [new b B] at e
   exact (I.hok b u e).stay (fun c v _ y=>k c v y) (fun c y=>ext c _ y) fun c xs y=>ext c _ y
  ·exact hok b u (Nat.not_lt.mp B) e
end
def ZaQ (v d:Addr):Heap->Prop:=fun h=>h.IsItemsView v d
def Vb (H:Hp):List (Addr×Zn×V)->Hp
 | []=>H
 | (a,k,v)::r=>upd (Vb H r) a (.tup [kV k,v])
theorem Zac {H:Hp}{b:Addr}:∀{l:List (Addr×Zn×V)},b ∉ l.map (·.1)->Vb H l b=H b
 | [],_=>rfl
 | (a,k,v)::r,h=>by
  rw [map_cons,mem_cons,not_or] at h
  show upd (Vb H r) a _ b=_
  rw [Zi h.1];exact Zac h.2
theorem Zez {H:Hp}{a:Addr}{k:Zn}{v:V}:∀{l:List (Addr×Zn×V)},(l.map (·.1)).Nodup->(a,k,v)∈l->Vb H l a=some (.tup [kV k,v])
 | (b,k',v')::r,hn,hm=>by
  rw [map_cons,nodup_cons] at hn
  show upd (Vb H r) b _ a=_
  rcases mem_cons.mp hm with e | hm
  ·cases e;exact Zh
  ·rw [Zi (fun z:a=b=>hn.1 (by show b∈_;rw [<- z];exact mem_map.mpr ⟨_,hm,rfl⟩))]
   exact Zez hn.2 hm
theorem ZlE {kvs:List (Zn×V)}{vs:List (Zn×Qb)}(r:KV kvs vs):∀{j:Nat}{k:Zn}{x:Qb},vs[j]?=some (k,x)->∃ v,kvs[j]?=some (k,v)/\RelV v x:=by
 induction r with
 | nil=>intro j k x e;simp at e
 | cons h t ih =>
  intro j k x e
  cases j with
  | zero =>
   cases (show some _=some (k,x) from e)
   rename_i a _ _
   refine ⟨a.2,?_,h.2⟩
   have e1:a.1=k:=h.1
   show some a=some (k,a.2)
   rw [<- e1]
  | succ j=>exact ih (by simpa using e)
section
variable {X:Cx}
theorem ZiN:MtR X "dict.items" (fun x xs H Q=>∃ d kvs,x=.ref d/\xs=[]/\H d=some (.dK kvs)/\∀ v,H v=none->Q (.ref v) (upd H v (.ext (ZaQ v d)))):=by
 intro pins s σ H x xs v us Q I G B h
 obtain ⟨d,kvs,rfl,rfl,e,q⟩:=h
 cases G
 cases B
 obtain ⟨S,lo,vs,W,z⟩:=Zck I.hok e
 refine Oj TW z.typeIs PySem.F.entry_dict_items (PySem.F.args_dict_items_1 _) (meets_dict_items (ZQ X.prog X.w) d lo) ⟨⟨vs,z⟩,?_⟩
 refine ⟨.ref s.heap.objs.size,_,I.laid (t':=s.toks) (fun b o y=>Qc _ y) (Qg _) (show ObjOk X.prog X.w _ _ _ (.ext (ZaQ s.heap.objs.size d)) from ⟨⟨_,Qo _ rfl,rfl,rfl⟩,⟨_,Qo _ rfl⟩,?_⟩),rfl,q _ (I.hok.fresh (Qg _))⟩
 rintro h1 h2 ⟨o,J,r⟩ k
 exact ⟨o,k _ J,r⟩
theorem ZaG (hc:X.calm=true):YD X (.type "list") (fun xs H Q=>∃ v d kvs,xs=[.ref v]/\H v=some (.ext (ZaQ v d))/\H d=some (.dK kvs) /\
 ∀ (l:Addr) (ts:List Addr) (H2:Hp),H l=none->Same H H2->ts.length=kvs.length->(∀ a∈ts,H a=none)->(∀ (i:Nat) (a:Addr) (p:Zn×V),ts[i]?=some a->kvs[i]?=some p->H2 a=some (.tup [kV p.1,p.2]))->H2 l=some (.lst (ts.map V.ref))->Q (.ref l) H2):=by
 intro pins s σ H xs us Q I r h
 obtain ⟨v,d,kvs,rfl,ev,ed,q⟩:=h
 obtain ⟨u,rfl,ru⟩:=YC r
 cases ru
 obtain ⟨hz,lo,vs,kv,o,es,ep,ho,r1,r2,r3,r4,r5⟩:=Zck I.hok ed
 have W:vs.length=kvs.length:=(JZ kv).symm
 refine kdx_call (knd:=ZQ X.prog X.w) (kvs:=vs) (ep:=ep) (I.ok.hd hc) (I.hok v _ ev).1 ⟨o,es,ho,r1,r2,r3,r4,r5⟩ (by rw [W];exact hz) fun h' tk acc c as hk hS hl hG Z=>?_
 have hl2:as.length=kvs.length:=by rw [hl,W]
 have hnd:as.Nodup:=hG.rise.imp fun h=>Qq h
 generalize hL:as.zip (kvs.map fun p=>p)=L
 have J:L.map (·.1)=as:=by
  rw [<- hL,List.map_id']
  exact List.map_fst_zip (by omega)
 have Y:∀ (j:Nat) (a:Addr) (p:Zn×V),as[j]?=some a->kvs[j]?=some p->(a,p.1,p.2)∈L:=fun j a p e1 e2=>by
  rw [<- hL,List.map_id']
  exact mem_of_getElem? (i:=j) (by rw [getElem?_zip_eq_some];exact ⟨e1,e2⟩)
 have B:∀ a∈as,s.heap.objs.size < a:=hG.above
 have hfr:∀ b,s.heap.objs.size<=b->H b=none:=fun b hb=>I.hok.fresh hb
 have hnl:s.heap.objs.size ∉ L.map (·.1):=fun z=>by rw [J] at z;exact absurd (B _ z) (Gz _)
 have S:∀ b,b < s.heap.objs.size->b ∉ L.map (·.1):=fun b hb z=>by rw [J] at z;exact absurd (Nat.lt_trans (B _ z) hb) (Gz _)
 have key:∀ b,b < s.heap.objs.size->upd (Vb H L) s.heap.objs.size (.lst (as.map V.ref)) b=H b:=fun b hb=>by rw [Zi (Qq hb),Zac (S b hb)]
 have sm:Same H (upd (Vb H L) s.heap.objs.size (.lst (as.map V.ref))):=fun b o e=>by rw [key b (I.hok.lt e)];exact e
 have G:∀ (j:Nat) (a:Addr) (p:Zn×V),as[j]?=some a->kvs[j]?=some p->upd (Vb H L) s.heap.objs.size (.lst (as.map V.ref)) a=some (.tup [kV p.1,p.2]):=fun j a p e1 e2=>by
  rw [Zi (GI (B a (mem_of_getElem? e1)))]
  exact Zez (by rw [J];exact hnd) (Y j a p e1 e2)
 have I2:Inv X pins σ (upd (Vb H L) s.heap.objs.size (.lst (as.map V.ref))) { s with heap:=h',toks:=tk }:=by
  refine I.many hk sm key fun b o hb e=>?_
  by_cases h0:b=s.heap.objs.size
  ·subst h0
   rw [Zh] at e
   cases e
   refine ⟨by rw [length_map,hl2];exact hz,acc.toList,c,?_,by rw [SU];exact hS⟩
   rw [Z]
   clear Z hl hG hl2 hnd hL J Y B hnl S key sm G
   induction as with
   | nil=>exact .nil
   | cons a r ih=>exact .cons rfl ih
  ·rw [Zi h0] at e
   by_cases hm:b∈as
   ·obtain ⟨j,hj⟩:=Jg.mp hm
    obtain ⟨keyv,kk,x,e1,e2,e3⟩:=hG.pairs j b hj
    obtain ⟨vv,e4,rel⟩:=ZlE kv e1
    have e5:=G j b (kk,vv) hj e4
    rw [Zi h0,e] at e5
    cases e5
    refine ⟨by show 2<=Qh;decide,[keyv,x],.cons ?_ (.cons rel .nil),⟨_,e3,rfl,_,rfl⟩⟩
    rw [Zfo] at e2
    rcases Yr e2 with ⟨i,tt,rfl,rfl⟩ | ⟨y,tt,rfl,rfl⟩
    ·exact ⟨tt,rfl⟩
    ·exact ⟨tt,rfl⟩
   ·rw [Zac (by rw [J];exact hm),hfr b hb] at e
    cases e
 exact ⟨.ref s.heap.objs.size,_,I2,rfl,q _ as _ (hfr _ (Qg _)) sm hl2 (fun a ha=>hfr a (GZ (B a ha))) G Zh⟩
def ZmN:TE:=fun _ H Q=>∀ p o,H p=none->o.dict=none->Q (.ref p) (upd H p (.frz o (.tup [])))
theorem Zes {G:Nat}{pos:Pos}:PE X (.Tuple [] G pos) ZmN:=by
 intro pins s σ H Q I B
 refine Rg (Zu (Za pos pins s σ H (fun xs H1=>xs=[]/\H1=H) I ⟨rfl,rfl⟩) fun us s1 ⟨xs,H1,z,r,e1,S⟩=>?_)
 subst e1 S
 cases r
 refine ⟨QF _,?_⟩
 have J:H1 s1.heap.objs.size=none:=z.hok.fresh (Qg _)
 exact ⟨.ref s1.heap.objs.size,_,z.laid (t':=s1.toks) (o:=.frz _ (.tup [])) (fun b u e=>Qc _ e) (Qg _) ⟨Qo _ rfl,QF _,[],.nil,⟨_,Qo _ rfl,rfl,_,rfl⟩⟩,rfl,B _ _ J rfl⟩
theorem Zai:YD X (.type "tuple") (fun xs H Q=>∃ p ys,xs=[.ref p]/\SqL X.K H p ys/\∀ l o,H l=none->o.dict=none->Q (.ref l) (upd H l (.frz o (.tup ys)))):=by
 intro pins s σ H xs us Q I r h
 obtain ⟨p,ys,rfl,Z,q⟩:=h
 obtain ⟨u,rfl,Y⟩:=YC r
 cases Y
 obtain ⟨z,J,pl,W⟩:=I.list Z
 have B:=J.length
 refine OY pl.isList (fun h' kp=>?_) (by simp only [size_toArray]<;>omega)
 have S:Inv X pins σ H { s with heap:=h' }:=I.kept (t':=s.toks) kp
 have G:(h'.push { cls:=.type "tuple",data:=.seq z.toArray }).get? h'.objs.size=some { cls:=.type "tuple",data:=.seq z.toArray }:=Qo _ rfl
 exact ⟨.ref h'.objs.size,_,S.laid (t':=s.toks) (o:=.frz { cls:=.type "tuple",data:=.seq z.toArray } (.tup ys)) (fun b o e=>Qc _ e) (Qg _) ⟨G,W,z,J,⟨_,G,rfl,_,rfl⟩⟩,rfl,q _ _ (S.hok.fresh (Qg _)) rfl⟩
end
section
variable {O:KeyOrd}{key:Nat->O.α}{n:Nat}{s:Qd}{cmp:Nat->Nat->(Bool->Qd->Prop)->Qd->Prop}
theorem Zmv {B:Type}{l:List B}(h:l.Nodup){i j:Nat}{hi:i < l.length}{hj:j < l.length}(e:l[i]=l[j]):i=j:=by
 have p:=List.pairwise_iff_getElem.mp h
 rcases Nat.lt_trichotomy i j with z | z | z
 ·exact absurd e (p i j hi hj z)
 ·exact z
 ·exact absurd e.symm (p j i hj hi z)
end
structure FunC (K:Qa)(x qual:Str)(st:Stmt)(f:Addr)(fd:Qi)(c Pl:Addr):Prop where
 ex:∃ (oc:Qb) (od:Option Addr) (kV doc pm:Qb) (an:Option Addr) (ct:Qb) (osl:Array (Option Qb)),
  fd=JG x qual (VJ st) (Xj st) (Zj st) .none kV doc pm an (.ref c) ct/\K.lookup f=some ⟨oc,od,.func fd,osl⟩/\SN K (.ref c) qual=true
 kp:Gs K (.ref f)=true
 hd:codeHdIn K c Pl=true
section
variable {P:Qj}{w:Qr}{K:Qa}{mg:Str->Option Qb}{base:Heap}
theorem FunC.ok {x qual:Str}{st:Stmt}{f c Pl:Addr}{fd:Qi}{N ps:List Str}{k:Nat}{sp:Sp}(F:FunC K x qual st f fd c Pl)(S:Zo N ps (Zj st))(len:∀ vs H Q E,sp vs H Q E->vs.length=ps.length)
 (z:∀ (A:QG) (outer:List Env) (s:Qd) (H:Hp) (vs:List V) (Q:VK) (E:XK),Room k (A.deeper (JW qual (Zj st) s.heap.objs.size f (.ref c)))->sp vs H Q E ->
  ∃ t,PSs (ZN ZH P w K mg base N qual (Zj st) f (.ref c) A outer s H E).nox (Xj st) t/\t { nx:=fun _ H'=>Q .non H',rt:=Q } (start N vs) H):FnOk P w K mg base ZH (k+1) f fd ps sp:=by
 obtain ⟨oc,od,kV,W,Z,an,Y,J,rfl,lk,B⟩:=F.ex
 refine ZfG lk B S len fun A outer s H vs Q E I G=>?_
 obtain ⟨t,h,q⟩:=z A outer s H vs Q E I G
 exact ⟨t,h.nox,q⟩
theorem FunC.fn {x qual:Str}{st:Stmt}{f c Pl:Addr}{fd:Qi}(F:FunC K x qual st f fd c Pl):Fun K x qual st f fd:=by
 obtain ⟨Y,W,kV,G,J,S,I,B,e,lk,z⟩:=F.ex
 exact ⟨⟨Y,W,kV,G,J,S,.ref c,I,B,e,lk,z⟩,F.kp⟩
end
theorem Zjk {X:Cx}{st:Stmt}:PS X st (fun _ _ _=>False):=fun _ _ _ _ _ _ h=>h.elim
structure TF (H H':Hp):Prop where
 tup:∀ b xs,H b=some (.tup xs)->H' b=some (.tup xs)
 frz:∀ b o u,H b=some (.frz o u)->H' b=some (.frz o u)
theorem TF.trans {H H1 H2:Hp}(a:TF H H1)(b:TF H1 H2):TF H H2:=⟨fun x xs h=>b.tup x xs (a.tup x xs h),fun x o u h=>b.frz x o u (a.frz x o u h)⟩
theorem Same.tf {H H':Hp}(h:Same H H'):TF H H':=⟨fun b _ e=>h b _ e,fun b _ _ e=>h b _ e⟩
theorem Grown.tf {Pl:Addr}{H H':Hp}{ps:Array Qb}(h:Grown Pl H H')(e:H Pl=some (.tbl ps)):TF H H' :=
 ⟨fun b _ y=>h b _ (fun z=>by rw [z,e] at y;cases y) y,fun b _ _ y=>h b _ (fun z=>by rw [z,e] at y;cases y) y⟩
theorem LamAt.tbl {H:Hp}{Pl:Addr}{lpos:Pos}{qual:Str}(h:LamAt H Pl lpos qual):∃ ps,H Pl=some (.tbl ps):=by
 rcases h with h | ⟨_,h,_⟩
 ·exact ⟨_,h⟩
 ·exact ⟨_,h⟩
theorem ZaL {H:Hp}{l:Addr}{xs:List V}{o:HO}(h:H l=some (.lst xs)):TF H (upd H l o) :=
 ⟨fun b _ y=>by rw [Zi (fun z=>by rw [z,h] at y;cases y)];exact y,fun b _ _ y=>by rw [Zi (fun z=>by rw [z,h] at y;cases y)];exact y⟩
theorem ZjP {H:Hp}{l:Addr}{xs:List (Zn×V)}{o:HO}(h:H l=some (.dK xs)):TF H (upd H l o) :=
 ⟨fun b _ y=>by rw [Zi (fun z=>by rw [z,h] at y;cases y)];exact y,fun b _ _ y=>by rw [Zi (fun z=>by rw [z,h] at y;cases y)];exact y⟩
theorem SqT.tf {K:Qa}{H H':Hp}{a:Addr}{xs:List V}(h:SqT K H a xs)(t:TF H H'):SqT K H' a xs:=by
 rcases h with (h | ⟨o,h⟩) | h
 ·exact .inl (.inl (t.tup _ _ h))
 ·exact .inl (.inr ⟨o,t.frz _ _ _ h⟩)
 ·exact .inr h
inductive Nd where
 | bare
 | leaf (m:Int) (ps:List (Str×V))
 | fork (qs:List Nat)
def Nd.parts:Nd->List Nat
 | .fork qs=>qs
 | _=>[]
def Nd.pairs:Nd->List (Str×V)
 | .leaf _ ps=>ps
 | _=>[]
def Nd.hasM (n:Int):Nd->Bool
 | .leaf m _=>decide (m=n)
 | _=>false
def PairT (H:Hp)(ts:List Addr)(ps:List (Str×V)):Prop:=ts.length=ps.length/\∀(i:Nat)(a:Addr)(p:Str×V),ts[i]?=some a->ps[i]?=some p->H a=some (.tup [.str p.1,p.2])
def PairsAt (H:Hp)(t:Addr)(ps:List (Str×V)):Prop:=∃ o ts,H t=some (.frz o (.tup (ts.map V.ref)))/\o.dict=none/\PairT H ts ps
def NodeAt (K:Qa)(H:Hp)(a:Addr):Nd->Prop
 | .bare=>SqT K H a [.str "bare"]
 | .leaf m ps=>∃ t,SqT K H a [.str "leaf",.int m,.ref t]/\PairsAt H t ps
 | .fork qs=>∃ t,SqT K H a [.str "fork",.ref t]/\SqT K H t (qs.map fun q:Nat=>V.int (q:Int))/\qs.length=4
theorem PairT.tf {H H':Hp}{ts:List Addr}{ps:List (Str×V)}(h:PairT H ts ps)(t:TF H H'):PairT H' ts ps:=⟨h.1,fun i a p e1 z=>t.tup _ _ (h.2 i a p e1 z)⟩
theorem PairsAt.tf {H H':Hp}{t:Addr}{ps:List (Str×V)}(h:PairsAt H t ps)(f:TF H H'):PairsAt H' t ps:=by
 obtain ⟨o,ts,e,d,p⟩:=h
 exact ⟨o,ts,f.frz _ _ _ e,d,p.tf f⟩
theorem NodeAt.tf {K:Qa}{H H':Hp}{a:Addr}{n:Nd}(h:NodeAt K H a n)(f:TF H H'):NodeAt K H' a n:=by
 cases n with
 | bare=>exact SqT.tf h f
 | leaf m ps=>obtain ⟨t,e,p⟩:=h;exact ⟨t,e.tf f,p.tf f⟩
 | fork qs=>obtain ⟨t,e,p,l⟩:=h;exact ⟨t,e.tf f,p.tf f,l⟩
def Ws (K:Qa):Sp:=fun vs H Q _=>∃(a:Addr)(n:Nd),vs=[.ref a]/\NodeAt K H a n/\∀ t H',Same H H'->SqT K H' t (n.parts.map fun q:Nat=>V.int (q:Int))->Q (.ref t) H'
def Xp (K:Qa):Sp:=fun vs H Q _=>∃(a:Addr)(n:Nd),vs=[.ref a]/\NodeAt K H a n/\∀ t H',Same H H'->PairsAt H' t n.pairs->Q (.ref t) H'
def Vp (K:Qa):Sp:=fun vs H Q _=>∃(a:Addr)(n:Nd)(m:Int),vs=[.ref a,.int m]/\NodeAt K H a n/\Q (.bl (n.hasM m)) H
def WQ (K:Qa):Sp:=fun vs H Q _=>∃(l:Addr)(qs:List Nat),vs=[.ref l]/\H l=some (.lst (qs.map fun q:Nat=>V.int (q:Int)))/\qs.length=4/\∀ a H',Same H H'->NodeAt K H' a (.fork qs)->Q (.ref a) H'
end L2
namespace L2
open PySem
def CompV (J:It)(tc:TT)(te:TE)(σ:St)(D:Addr)(Q:VK)(H1:Hp):Prop :=
 ∃ W : Nat->Nat->List V->Hp->Prop,(∃ m,W 0 m [] (upd H1 D (.lst [])))/\∀ i m ys H2,W i m ys H2 ->
  (J.stop i H2/\Q (.ref D) H2)\/(J.go i H2/\∃ (N:VK) (M:Hp->Prop),(∀ y H4,N y H4->H4 D=some (.lst ys)/\ys.length < Qh/\∃ m',m' < m/\W (i+1) m' (ys++[y]) (upd H4 D (.lst (ys++[y]))))/\(∀ H4,M H4->∃ m',m' < m/\W (i+1) m' ys H4) /\
   ∀ v H3,J.yld i H2 v H3->tc (σ++[some v]) H3 fun b H4=>if b=true then te (σ++[some v]) H4 N else M H4)
def Zlp (wi:TI)(tc:TT)(te:TE):TE:=fun σ H Q=>wi σ H fun J H1=>∀ D,H1 D=none->CompV J tc te σ D Q H1
theorem CompV.n {J:It}{tc:TT}{te:TE}{σ:St}{D:Addr}{Q:VK}{H:Hp}{n:Nat}(hn:σ.length=n)(h:CompV J tc te σ D Q H):VI J (WL n) tc te 1 (fun σ B=>∃ w,B=σ++[w]) σ D Q H:=by
 obtain ⟨W,w0,t⟩:=h
 refine ⟨W,w0,fun i m ys H2 w2=>(t i m ys H2 w2).imp (fun z=>z) fun ⟨go,N,M,S,Z,hy⟩=>⟨go,N,M,S,Z,fun Y v G hl y=>?_⟩⟩
 match Y,hl with
 | [w],_ =>
  show (∃ I,(σ++[w]).set n (some v)=σ++[I])/\tc ((σ++[w]).set n (some v)) G _
  rw [set1 hn]
  exact ⟨⟨_,rfl⟩,hy v G y⟩
section
variable {X:Cx}{elt iter cnd:Expr}{x:Str}{px pos:Pos}{scope:Scope}{wi:TI}{te:TE}{tc:TT}
theorem VS {i:Nat}{y:Str}{Z G:Pos}(O:CompOk X scope x)(hc:X.calm=true)(hN:X.N.Nodup)(S:X.N[i]?=some y)(hy:Loc X.env.scope y)(hi:PI X (.Name x px) iter wi)(W:∀ I C B z fp,PT (ZaB X scope x I C B z fp) cnd tc)(he:∀ I C B z fp,PE (ZaB X scope x I C B z fp) elt te)
 (Y:JA (.ListComp elt [⟨.Name x px,iter,[cnd],0⟩] scope pos) (some (.Name y Z)) G.line X.env=pure true) (hf:X.fn y=true\/X.env.scope.names.lookup y=some .local:=by first | exact .inl rfl | exact .inr rfl | assumption)
 (hs:∀ v,Gh iter X.env v=pure v:=by intro _;rfl):PS X (.Assign [.Name y Z] (.ListComp elt [⟨.Name x px,iter,[cnd],0⟩] scope pos) G) (Zbv (Zlp wi tc te) (WL i)) :=
 Uv (CW:=fun J σ D Q H=>CompV J tc te σ D Q H) O hc hN S hy hi (fun _ _ _ _ _ hl h=>h.n hl) ok1 (ZdP O) (fun I C B z fp=>.inr ⟨_,rfl,W I C B z fp⟩) he Y hf hs
end
theorem ZgW {K:Qa}{a:Addr}{xs:List V}{tc:TT}{te:TE}{σ:St}{D:Addr}{Q:VK}{H:Hp}(hn:xs.length<=Qh)(z:Nat->List V->Hp->Prop)(Y:z 0 [] (upd H D (.lst [])))
 (W:∀ i ys H,z i ys H->ys.length<=i/\SqT K H a xs)
 (S:∀ i x ys H,xs[i]?=some x->z i ys H->tc (σ++[some x]) H fun b I=>if b=true then te (σ++[some x]) I fun y G=>G D=some (.lst ys)/\z (i+1) (ys++[y]) (upd G D (.lst (ys++[y]))) else z (i+1) ys I) (Z:∀ ys H,z xs.length ys H->Q (.ref D) H):CompV (Itt K a) tc te σ D Q H:=by
 refine ⟨fun i m ys H=>m=xs.length - i/\i<=xs.length/\z i ys H,⟨xs.length,by simp,QF _,Y⟩,?_⟩
 rintro i m ys H2 ⟨rfl,hi,p⟩
 obtain ⟨J,q⟩:=W i ys _ p
 by_cases B:i < xs.length
 ·refine .inr ⟨⟨xs,xs[i],q,by simp [B]⟩,_,_,fun y G (q:G D=some (.lst ys)/\z (i+1) (ys++[y]) (upd G D (.lst (ys++[y]))))=>⟨q.1,by omega,xs.length - (i+1),by omega,rfl,B,q.2⟩,fun G (q:z (i+1) ys G)=>⟨xs.length - (i+1),by omega,rfl,B,q⟩,fun v I y=>?_⟩
  obtain ⟨e,y⟩:=y
  subst e
  exact S i v ys _ (y xs q) p
 ·have e:i=xs.length:=by omega
  subst e
  exact .inl ⟨⟨xs,q,Qg _⟩,Z ys H2 p⟩
theorem Zfd {K:Qa}{a:Addr}{xs:List V}{tc:TT}{te:TE}{σ:St}{D:Addr}{Q:VK}{H:Hp}(hn:xs.length<=Qh)(z:Nat->List V->Hp->Prop)(Y:z 0 [] (upd H D (.lst [])))
 (W:∀ i ys H,z i ys H->ys.length<=i/\SqL K H a xs)
 (S:∀ i x ys H,xs[i]?=some x->z i ys H->tc (σ++[some x]) H fun b I=>if b=true then te (σ++[some x]) I fun y G=>G D=some (.lst ys)/\z (i+1) (ys++[y]) (upd G D (.lst (ys++[y]))) else z (i+1) ys I) (Z:∀ ys H,z xs.length ys H->Q (.ref D) H):CompV (Itl K a) tc te σ D Q H:=by
 refine ⟨fun i m ys H=>m=xs.length - i/\i<=xs.length/\z i ys H,⟨xs.length,by simp,QF _,Y⟩,?_⟩
 rintro i m ys H2 ⟨rfl,hi,p⟩
 obtain ⟨J,q⟩:=W i ys _ p
 by_cases B:i < xs.length
 ·refine .inr ⟨⟨xs,xs[i],q,by simp [B]⟩,_,_,fun y G (q:G D=some (.lst ys)/\z (i+1) (ys++[y]) (upd G D (.lst (ys++[y]))))=>⟨q.1,by omega,xs.length - (i+1),by omega,rfl,B,q.2⟩,fun G (q:z (i+1) ys G)=>⟨xs.length - (i+1),by omega,rfl,B,q⟩,fun v I y=>?_⟩
  obtain ⟨e,y⟩:=y
  subst e
  exact S i v ys _ (y xs q) p
 ·have e:i=xs.length:=by omega
  subst e
  exact .inl ⟨⟨xs,q,Qg _⟩,Z ys H2 p⟩
end L2
namespace L2
open PySem PySem.Spec PyProof.Rows
theorem ok2:∀ σ z:St,(∃ B G,z=σ++[B,G])->∃ I:St,I.length=[xa,xb].length/\z=σ++I:=fun _ _ ⟨B,G,e⟩=>⟨[B,G],rfl,e⟩
section
variable {X:Cx}{elt iter tg:Expr}{xa xb:Str}{pos:Pos}{scope:Scope}{wi:TI}{te:TE}{g:TG}
end
def CompVT (J:It)(g:TG)(tc:TT)(te:TE)(σ:St)(D:Addr)(Q:VK)(H1:Hp):Prop :=
 ∃ W : Nat->Nat->List V->Hp->Prop,(∃ m,W 0 m [] (upd H1 D (.lst [])))/\∀ i m ys H2,W i m ys H2 ->
  (J.stop i H2/\Q (.ref D) H2)\/(J.go i H2/\∃ (N:VK) (M:Hp->Prop),(∀ y H4,N y H4->H4 D=some (.lst ys)/\ys.length < Qh/\∃ m',m' < m/\W (i+1) m' (ys++[y]) (upd H4 D (.lst (ys++[y]))))/\(∀ H4,M H4->∃ m',m' < m/\W (i+1) m' ys H4) /\
   ∀ wa wb v H3,J.yld i H2 v H3->g v (σ++[wa,wb]) H3 fun σ' H'=>(∃ wa wb,σ'=σ++[wa,wb])/\tc σ' H' fun b H4=>if b=true then te σ' H4 N else M H4)
def Zew (wi:TI)(g:TG)(tc:TT)(te:TE):TE:=fun σ H Q=>wi σ H fun J H1=>∀ D,H1 D=none->CompVT J g tc te σ D Q H1
theorem CompVT.n {J:It}{g:TG}{tc:TT}{te:TE}{σ:St}{D:Addr}{Q:VK}{H:Hp}(h:CompVT J g tc te σ D Q H):VI J g tc te 2 (fun σ I=>∃ G B,I=σ++[G,B]) σ D Q H:=by
 obtain ⟨W,w0,t⟩:=h
 refine ⟨W,w0,fun i m ys H2 w2=>(t i m ys H2 w2).imp (fun z=>z) fun ⟨go,N,M,S,Z,hy⟩=>⟨go,N,M,S,Z,fun Y v H3 hl y=>?_⟩⟩
 match Y,hl with
 | [G,B],_=>exact hy G B v H3 y
section
variable {X:Cx}{elt iter tg cnd:Expr}{xa xb:Str}{pos:Pos}{scope:Scope}{wi:TI}{te:TE}{tc:TT}{g:TG}
theorem ZgF (O:CompOkT X scope xa xb)(Y:X.calm=true)(hi:PI X tg iter wi)(W:∀ G C B z fp,PG (WN X scope xa xb G C B z fp) tg g)(I:∀ G C B z fp,PT (WN X scope xa xb G C B z fp) cnd tc)(Z:∀ G C B z fp,PE (WN X scope xa xb G C B z fp) elt te)
 (S:∀ v,Gh iter X.env v=pure v:=by intro _;rfl):PE X (.ListComp elt [⟨tg,iter,[cnd],0⟩] scope pos) (Zew wi g tc te) :=
 ZcH (CW:=fun J σ D Q H=>CompVT J g tc te σ D Q H) O Y hi (fun _ _ _ _ _ _ h=>h.n) ok2 W (fun G C B z fp=>.inr ⟨_,rfl,I G C B z fp⟩) Z S
theorem Zdl {i:Nat}{y:Str}{Z G:Pos}(O:CompOkT X scope xa xb)(hc:X.calm=true)(hN:X.N.Nodup)(S:X.N[i]?=some y)(hy:Loc X.env.scope y)(hi:PI X tg iter wi)(hg:∀ I C B z fp,PG (WN X scope xa xb I C B z fp) tg g)(W:∀ I C B z fp,PT (WN X scope xa xb I C B z fp) cnd tc)(he:∀ I C B z fp,PE (WN X scope xa xb I C B z fp) elt te)
 (Y:JA (.ListComp elt [⟨tg,iter,[cnd],0⟩] scope pos) (some (.Name y Z)) G.line X.env=pure true) (hf:X.fn y=true\/X.env.scope.names.lookup y=some .local:=by first | exact .inl rfl | exact .inr rfl | assumption)
 (hs:∀ v,Gh iter X.env v=pure v:=by intro _;rfl):PS X (.Assign [.Name y Z] (.ListComp elt [⟨tg,iter,[cnd],0⟩] scope pos) G) (Zbv (Zew wi g tc te) (WL i)) :=
 Uv (CW:=fun J σ D Q H=>CompVT J g tc te σ D Q H) O hc hN S hy hi (fun _ _ _ _ _ _ h=>h.n) ok2 hg (fun I C B z fp=>.inr ⟨_,rfl,W I C B z fp⟩) he Y hf hs
end
end L2
namespace L2
open PySem
def Yx:HO->Bool
 | .tup _=>false
 | .frz _ _=>false
 | .own _=>false
 | .met _ _=>false
 | .rng _ _=>false
 | .ext _=>false
 | _=>true
def WE (H h:Hp):Hp:=fun b=>match h b with
 | some o=>if Yx o=true then none else H b
 | none=>H b
def one (p:Addr)(o:HO):Hp:=fun b=>if b=p then some o else none
theorem one_some {p b:Addr}{o u:HO}:one p o b=some u↔b=p/\o=u:=by
 unfold one
 by_cases h:b=p
 ·rw [if_pos h];exact ⟨fun z=>⟨h,Qv z⟩,fun z=>by rw [z.2]⟩
 ·rw [if_neg h];exact ⟨fun z=>(by cases z),fun z=>absurd z.1 h⟩
abbrev Yv:=Addr->Hp->Prop
abbrev Rs:=List (Addr×Yv)
def Sep:Rs->Hp->Prop
 | [],_=>True
 | (a,R)::Δ,H=>∃ h,Same h H/\R a h/\Sep Δ (WE H h)
theorem cut_some {H h:Hp}{b:Addr}{o:HO}:WE H h b=some o↔H b=some o/\∀ u,h b=some u->Yx u=false:=by
 unfold WE
 cases e:h b with
 | none=>exact ⟨fun z=>⟨z,fun u q=>by cases q⟩,fun z=>z.1⟩
 | some v =>
  cases m:Yx v with
  | true=>show (if Yx v=true then none else H b)=some o↔_;rw [if_pos m];exact ⟨fun z=>(by cases z),fun z=>(by have:=z.2 v rfl;rw [m] at this;cases this)⟩
  | false=>show (if Yx v=true then none else H b)=some o↔_;rw [if_neg (by rw [m];decide)];exact ⟨fun z=>⟨z,fun u q=>(by cases q;exact m)⟩,fun z=>z.1⟩
theorem ZaE {H h:Hp}:Same (WE H h) H:=fun b o e=>(cut_some.mp e).1
theorem ZcA {H H' h:Hp}(s:Same H H'):Same (WE H h) (WE H' h):=fun b o e=>let ⟨x,y⟩:=cut_some.mp e;cut_some.mpr ⟨s _ _ x,y⟩
theorem Sep.mono:∀{Δ:Rs}{H H':Hp},Sep Δ H->Same H H'->Sep Δ H'
 | [],_,_,_,_=>trivial
 | (_,_)::_,_,_,⟨h,l,r,S⟩,s=>⟨h,l.trans s,r,S.mono (ZcA s)⟩
theorem Sep.swap {a b:Addr}{R T:Yv}{Δ:Rs}{H:Hp}(S:Sep ((a,R)::(b,T)::Δ) H):Sep ((b,T)::(a,R)::Δ) H:=by
 obtain ⟨h,l,r,g,m,t,S⟩:=S
 refine ⟨g,m.trans ZaE,t,h,fun c o e=>cut_some.mpr ⟨l _ _ e,fun u q=>?_⟩,r,S.mono fun c o e=>?_⟩
 ·obtain ⟨G,B⟩:=cut_some.mp (m _ _ q)
  have z:=l _ _ e
  rw [G] at z;cases z
  exact B _ e
 ·obtain ⟨e1,z⟩:=cut_some.mp e
  obtain ⟨I,J⟩:=cut_some.mp e1
  exact cut_some.mpr ⟨cut_some.mpr ⟨I,z⟩,J⟩
theorem Sep.tail {a:Addr}{R:Yv}{Δ:Rs}{H:Hp}(S:Sep ((a,R)::Δ) H):Sep Δ H:=by
 obtain ⟨h,l,r,S⟩:=S
 exact S.mono ZaE
class Pull (a:Addr) (Δ:Rs) (R:outParam Yv) (Δ':outParam Rs):Prop where
 out:∀ {H},Sep Δ H->Sep ((a,R)::Δ') H
instance (priority:=1000) Pull.here {a:Addr} {R:Yv} {Δ:Rs}:Pull a ((a,R)::Δ) R Δ:=⟨fun S=>S⟩
instance (priority:=900) Pull.there {a b:Addr} {R T:Yv} {Δ Δ':Rs} [P:Pull a Δ R Δ']:Pull a ((b,T)::Δ) R ((b,T)::Δ') :=
 ⟨fun S=>by
  obtain ⟨h,l,r,S⟩:=S
  exact Sep.swap ⟨h,l,r,P.out S⟩⟩
theorem Sep.pull {Δ z:Rs}{H:Hp}{R:Yv}(S:Sep Δ H)(a:Addr)[P:Pull a Δ R z]:Sep ((a,R)::z) H:=P.out S
theorem Sep.drop {Δ z:Rs}{H:Hp}{R:Yv}(S:Sep Δ H)(a:Addr)[P:Pull a Δ R z]:Sep z H:=(P.out S).tail
class Up (R:Yv):Prop where
 up:∀ {a:Addr} {H H':Hp},R a H->Same H H'->R a H'
theorem Sep.get {Δ z:Rs}{H:Hp}{R:Yv}(S:Sep Δ H)(a:Addr)[P:Pull a Δ R z][U:Up R]:R a H:=by
 obtain ⟨h,l,r,_⟩:=P.out S
 exact U.up r l
def Pt (o:HO):Yv:=fun a h=>h a=some o
abbrev Ye (xs:List V):Yv:=Pt (.lst xs)
abbrev VP (xs:List V):Yv:=Pt (.tup xs)
instance {o:HO}:Up (Pt o):=⟨fun h s=>s _ _ h⟩
theorem Sep.new {Δ:Rs}{H:Hp}(S:Sep Δ H){p:Addr}(hp:H p=none)(o:HO):Sep ((p,Pt o)::Δ) (upd H p o):=by
 refine ⟨one p o,fun b u e=>?_,one_some.mpr ⟨rfl,rfl⟩,S.mono fun b u e=>?_⟩
 ·obtain ⟨rfl,rfl⟩:=one_some.mp e;exact Zh
 ·have z:=Zp e hp
  exact cut_some.mpr ⟨by rw [Zi z];exact e,fun v q=>absurd (one_some.mp q).1 z⟩
theorem Sep.made {Δ:Rs}{H H':Hp}(S:Sep Δ H)(s:Same H H'){p:Addr}{o:HO}(hp:H p=none)(e:H' p=some o):Sep ((p,Pt o)::Δ) H':=by
 refine ⟨one p o,fun b u q=>?_,one_some.mpr ⟨rfl,rfl⟩,S.mono fun b u q=>?_⟩
 ·obtain ⟨rfl,rfl⟩:=one_some.mp q;exact e
 ·have z:=Zp q hp
  exact cut_some.mpr ⟨s _ _ q,fun v q=>absurd (one_some.mp q).1 z⟩
theorem Sep.put {Δ B:Rs}{H:Hp}{o:HO}(S:Sep Δ H)(a:Addr)(o':HO)[P:Pull a Δ (Pt o) B](m:Yx o=true:=by rfl):Sep ((a,Pt o')::B) (upd H a o'):=by
 obtain ⟨h,l,r,S⟩:=P.out S
 refine ⟨one a o',fun b u q=>?_,one_some.mpr ⟨rfl,rfl⟩,S.mono fun b u q=>?_⟩
 ·obtain ⟨rfl,rfl⟩:=one_some.mp q;exact Zh
 ·obtain ⟨I,J⟩:=cut_some.mp q
  have G:b≠a:=fun z=>by
   have:=J o (by rw [z];exact r)
   rw [m] at this;cases this
  exact cut_some.mpr ⟨by rw [Zi G];exact I,fun v q=>absurd (one_some.mp q).1 G⟩
theorem Sep.say {Δ z:Rs}{H:Hp}{R:Yv}(S:Sep Δ H)(a:Addr)(T:Yv)[P:Pull a Δ R z](f:∀ h,R a h->T a h):Sep ((a,T)::z) H:=by
 obtain ⟨h,l,r,S⟩:=P.out S
 exact ⟨h,l,f h r,S⟩
theorem Sep.call {Δ:Rs}{H H':Hp}{a:Addr}{R T:Yv}{L:List Addr}(S:Sep ((a,R)::Δ) H)(k:∀ b o,b ∉ L->H b=some o->H' b=some o)
 (f:∀ h,Same h H->R a h->(∀ b∈L,∃ o,h b=some o/\Yx o=true)/\∃ h',Same h' H'/\T a h'/\∀ b o,h' b=some o->Yx o=true->b∈L\/H b=none\/∃ u,h b=some u/\Yx u=true):Sep ((a,T)::Δ) H':=by
 obtain ⟨h,l,r,S⟩:=S
 obtain ⟨Z,h',Y,t,f2⟩:=f h l r
 refine ⟨h',Y,t,S.mono fun b o e=>?_⟩
 obtain ⟨e1,B⟩:=cut_some.mp e
 have G:b ∉ L:=fun z=>by
  obtain ⟨u,W,J⟩:=Z b z
  rw [B u W] at J;cases J
 refine cut_some.mpr ⟨k b o G e1,fun u q=>?_⟩
 cases m:Yx u with
 | false=>rfl
 | true =>
  rcases f2 b u q m with z | z | ⟨v,z1,I⟩
  ·exact absurd z G
  ·rw [e1] at z;cases z
  ·rw [B v z1] at I;cases I
abbrev Bx (n:Nat):Yv:=fun a h=>BoxAt h a n
instance {n:Nat}:Up (Bx n):=⟨fun h s=>h.same s⟩
theorem Sep.box {Δ:Rs}{H H':Hp}{p:Addr}{n m:Nat}(S:Sep ((p,Bx n)::Δ) H)(k:Kp p H H')(B:BoxAt H' p m):Sep ((p,Bx m)::Δ) H':=by
 refine S.call (L:=[p]) (fun b o nb e=>k b o (fun z=>nb (by simp [z])) e) fun h l r=>⟨fun b G=>?_,?_⟩
 ·rw [mem_singleton.mp G]
  obtain ⟨x,y,z,e,_⟩:=r
  exact ⟨_,e,rfl⟩
 ·obtain ⟨x,y,z,e,w⟩:=B
  refine ⟨one p (.lst [.int x,.int y,.int z]),fun b u q=>?_,⟨x,y,z,one_some.mpr ⟨rfl,rfl⟩,w⟩,fun b o q _=>.inl (by simp [(one_some.mp q).1])⟩
  obtain ⟨rfl,rfl⟩:=one_some.mp q;exact e
def Zet (M:Int):Sp:=fun vs H Q _=>∃(p:Addr)(n:Nat)(m:Int)(Δ:Rs),vs=[.ref p,.int m]/\Sep ((p,Bx n)::Δ) H/\n<=1000000/\0 < m/\m < M/\∀(r:Int)(H':Hp),0<=r->r < m->Sep ((p,Bx (n+1))::Δ) H'->Q (.int r) H'
theorem Zmt {M:Int}{vs:List V}{H:Hp}{Q:VK}{E:XK}(h:Zet M vs H Q E):ZaC M vs H Q E:=by
 obtain ⟨p,n,m,Δ,e,S,h1,h2,z,q⟩:=h
 exact ⟨p,n,m,e,S.get p,h1,h2,z,fun r H' a b B k=>q r H' a b (S.box k B)⟩
theorem ZeT {x:V}{u:Qb}(h:ZfO u=some x):RelV x u:=by
 cases u<;>first | (cases h;exact rfl) | (cases h;exact ⟨_,rfl⟩) | cases h
theorem VW:∀{xs:List V}{us:List Qb},us.map ZfO=xs.map some->Vals xs us
 | [],[],_=>.nil
 | [],_::_,h=>by cases h
 | _::_,[],h=>by cases h
 | x::xs,u::us,h=>by
  rw [map_cons,map_cons,List.cons.injEq] at h
  exact .cons (ZeT h.1) (VW h.2)
def Zct (K:Qa)(a:Addr)(vs:List V):Bool:=match K.lookup a with
 | some ⟨.type "tuple",_,.seq its _,_⟩=>decide (its.size<=100000)&&decide (its.toList.map ZfO=vs.map some)
 | _=>false
theorem ZdD {K:Qa}{a:Addr}{vs:List V}(h:Zct K a vs=true)(H:Hp):SqT K H a vs:=by
 unfold Zct at h
 split at h
 ·rename_i z n _ B
  simp only [QM,decide_eq_true_eq] at h
  exact .inr ⟨_,z,n,B,rfl,rfl,Qw h.1 (by decide),VW h.2⟩
 ·cases h
structure ZX (mg:Str->Option Qb):Prop where
 len:mg "len"=none
 abs:mg "abs"=none
 int:mg "int"=none
 range:mg "range"=none
 min:mg "min"=none
 max:mg "max"=none
 repr:mg "repr"=none
 enumerate:mg "enumerate"=none
 ord:mg "ord"=none
 list:mg "list"=none
 tuple:mg "tuple"=none
 dict:mg "dict"=none
 sorted:mg "sorted"=none
 sum:mg "sum"=none
 all:mg "all"=none
 any:mg "any"=none
 divmod:mg "divmod"=none
 str:mg "str"=none
 isinstance:mg "isinstance"=none
 set:mg "set"=none
 zip:mg "zip"=none
 reversed:mg "reversed"=none
 bool:mg "bool"=none
abbrev DTk (P:Qj)(w:Qr)(K:Qa)(mg:Str->Option Qb)(base:Heap)(k:Nat):Prop:=Def P w K mg base k "_law_take" ["_law_box_here","_law_many"] (Zet 4611686018427387904)
theorem FnOk.conv {P:Qj}{w:Qr}{K:Qa}{mg:Str->Option Qb}{base:Heap}{k:Nat}{f:Addr}{fd:Qi}{ps:List Str}{sp sp':Sp}(F:FnOk P w K mg base ZH k f fd ps sp)(h:∀ vs H Q E,sp' vs H Q E->sp vs H Q E):FnOk P w K mg base ZH k f fd ps sp' :=
 ⟨fun vs H Q E z=>F.len vs H Q E (h vs H Q E z),fun A outer s H args us vs Q E B J G I z=>F.run A outer s H args us vs Q E B J G I (h vs H Q E z)⟩
theorem Def.conv {P:Qj}{w:Qr}{K:Qa}{mg:Str->Option Qb}{base:Heap}{k:Nat}{x:Str}{ps:List Str}{sp sp':Sp}(D:Def P w K mg base k x ps sp)(h:∀ vs H Q E,sp' vs H Q E->sp vs H Q E):Def P w K mg base k x ps sp' :=
 let ⟨f,fd,F,b,kp,m⟩:=D;⟨f,fd,F.conv h,b,kp,m⟩
theorem Zba {B:Type}{xs:List B}{r:Int}{v:B}(G:0<=r)(h:xs[r.toNat]?=some v):YK xs r=some v:=by
 have z:YK xs ((r.toNat:Nat):Int)=some v:=ZJ h
 rwa [show ((r.toNat:Nat):Int)=r by omega] at z
theorem Yy {n m:Nat}(h:n<=m)(z:m<=100000:=by decide):n<=sizeLine:=Qw (Qw h z) (by decide)
theorem YZ {n m:Nat}(h:n<=m)(z:m<=100000:=by decide):n < sizeLine:=Gc (Qw h z) (by decide)
def DefM (P:Qj)(w:Qr)(K:Qa)(mg:Str->Option Qb)(base:Heap)(k:Nat)(C:Addr)(m:Str)(ps:List Str)(sp:Sp):Prop:=∃ f fd,FnOk P w K mg base ZH k f fd ps sp/\Binds K fd ps []/\Us K C m f
theorem DefM.mono {P:Qj}{w:Qr}{K:Qa}{mg:Str->Option Qb}{base:Heap}{j k:Nat}{C:Addr}{m:Str}{ps:List Str}{sp:Sp}(D:DefM P w K mg base j C m ps sp)(h:j<=k):DefM P w K mg base k C m ps sp :=
 let ⟨f,fd,F,b,q⟩:=D;⟨f,fd,F.mono h,b,q⟩
section
variable {X:Cx}{k:Nat}{C:Addr}{m:Str}{ps:List Str}{sp:Sp}{pos apos:Pos}{o e:Expr}{es:List Expr}{ta:TE}{t:TA}
theorem Yc {pl:Sem Bool}(D:DefM X.prog X.w X.K X.mg X.base k C m ps sp)(c:Cls X.K C)(I:Room k X.A)(W:PE X o ta)(J:PA X (e::es) t)
 (B:Qz (e::es) X.env=(false,eval e X.env)::Qz es X.env:=by rfl) (z:(GP pos (Qz es X.env)).any (·.1)=false:=by rfl)
 (S:eval (.Call (.Attribute o m apos) (e::es) [] pos) X.env=(do
  let G <- eval o X.env
  Te apos.atName
  let (f,first) <- JB [G] (PJ G m pl)
  TK pos f first (GP pos (Qz (e::es) X.env)) (Pf pos (GX [] X.env))):=by rfl) :
 PE X (.Call (.Attribute o m apos) (e::es) [] pos) (Zcr C m sp [] E0 ta t):=by
 obtain ⟨f,fd,F,b,q⟩:=D
 exact ZjN W c q F I b .nil Zcw J B z S
end
def Kq (S:List Addr)(H H':Hp):Prop:=∀ b o,b ∉ S->H b=some o->H' b=some o
theorem Kq.trans {S:List Addr}{H H1 H2:Hp}(a:Kq S H H1)(b:Kq S H1 H2):Kq S H H2:=fun x o n h=>b x o n (a x o n h)
theorem Kq.sub {S B:List Addr}{H H':Hp}(a:Kq S H H')(h:∀ b∈S,b∈B):Kq B H H':=fun x o n e=>a x o (fun z=>n (h x z)) e
theorem Same.kq {S:List Addr}{H H':Hp}(h:Same H H'):Kq S H H':=fun b o _ e=>h b o e
theorem Zau {H:Hp}{a:Addr}{o:HO}:Kq [a] H (upd H a o):=fun b u n e=>by rw [Zi (fun z=>n (by simp [z]))];exact e
theorem tn:¬ (("nodes":Str)="tables"):=by decide +kernel
def Zah (ln dt:Addr):List (Str×V):=Xk "tables" (.ref dt) (Xk "nodes" (.ref ln) [])
theorem Xo (z B:Addr):(Zah z B).lookup ("nodes":Str)=some (.ref z):=by unfold Zah;rw [YT,if_neg tn,YT,if_pos rfl]
theorem Zgd (B z:Addr):(Zah B z).lookup ("tables":Str)=some (.ref z):=by unfold Zah;rw [YT,if_pos rfl]
theorem ZM (B z:Addr){m:Str}(h1:¬ m="tables")(h2:¬ m="nodes"):(Zah B z).lookup m=none:=by
 unfold Zah
 rw [YT,if_neg h1,YT,if_neg h2]
 rfl
structure StoreAt (K:Qa)(C st ln dt:Addr)(H:Hp)(nds:List Nd)(tabs:List (Zn×V)):Prop where
 ob:∃ dx,H st=some (.ins C dx (Zah ln dt))
 nl:∃ as:List Addr,H ln=some (.lst (as.map V.ref))/\as.length=nds.length/\∀ (i:Nat) (a:Addr) (n:Nd),as[i]?=some a->nds[i]?=some n->NodeAt K H a n
 tb:H dt=some (.dK tabs)
theorem StoreAt.keep {K:Qa}{C st G B:Addr}{H H':Hp}{nds:List Nd}{z:List (Zn×V)}(S:StoreAt K C st G B H nds z)(h:Same H H'):StoreAt K C st G B H' nds z:=by
 obtain ⟨⟨dx,e⟩,⟨as,W,l,J⟩,I⟩:=S
 exact ⟨⟨dx,h _ _ e⟩,⟨as,h _ _ W,l,fun i a n x y=>(J i a n x y).tf h.tf⟩,h _ _ I⟩
theorem StoreAt.kq {K:Qa}{C st B G:Addr}{H H':Hp}{nds:List Nd}{z:List (Zn×V)}{L:List Addr}(S:StoreAt K C st B G H nds z)(k:Kq L H H')(t:TF H H')(h1:st ∉ L)(h2:B ∉ L)(I:G ∉ L):StoreAt K C st B G H' nds z:=by
 obtain ⟨⟨dx,e⟩,⟨as,Y,l,W⟩,J⟩:=S
 exact ⟨⟨dx,k _ _ h1 e⟩,⟨as,k _ _ h2 Y,l,fun i a n x y=>(W i a n x y).tf t⟩,k _ _ I J⟩
theorem Grown.kq {Pl:Addr}{H H':Hp}(g:Grown Pl H H'):Kq [Pl] H H':=fun b o n e=>g b o (fun z=>n (by simp [z])) e
theorem LamAt.kq {H H':Hp}{Pl:Addr}{lpos:Pos}{q:Str}{L:List Addr}(h:LamAt H Pl lpos q)(k:Kq L H H')(B:∀ b∈L,∃ xs,H b=some (.lst xs)):LamAt H' Pl lpos q:=by
 rcases h with h | ⟨c,h,h2⟩
 ·exact .inl (k _ _ (fun z=>by obtain ⟨_,e⟩:=B _ z;rw [h] at e;cases e) h)
 ·exact .inr ⟨c,k _ _ (fun z=>by obtain ⟨_,e⟩:=B _ z;rw [h] at e;cases e) h,k _ _ (fun z=>by obtain ⟨_,e⟩:=B _ z;rw [h2] at e;cases e) h2⟩
theorem Zbp {G:Type}{xs:List G}{r:Int}(I:0<=r)(h1:r < (xs.length:Int)):∃ v,YK xs r=some v/\v∈xs:=by
 have B:r.toNat < xs.length:=by omega
 have z:YK xs ((r.toNat:Nat):Int)=some xs[r.toNat]:=ZJ (getElem?_eq_getElem B)
 have e:((r.toNat:Nat):Int)=r:=by omega
 rw [e] at z
 exact ⟨_,z,Ge B⟩
def YW:V->Prop
 | .int i=>i.natAbs < 10 ^ 30
 | .str x=>x.length<=40/\x.cps.toList.all VQ=true
 | _=>False
def ZaU:V->Bool
 | .int i=>decide (i.natAbs < 10 ^ 30)
 | .str x=>decide (x.length<=40)&&x.cps.toList.all VQ
 | _=>false
theorem UU {v:V}(h:ZaU v=true):YW v:=by
 cases v with
 | int i=>exact of_decide_eq_true (p:=i.natAbs < 10 ^ 30) h
 | str x =>
  have h':(decide (x.length<=40)&&x.cps.toList.all VQ)=true:=h
  simp only [QM,decide_eq_true_eq] at h'
  exact h'
 | _=>cases h
def Zeh:Sp:=fun vs H Q _=>∃(p:Addr)(n:Nat),vs=[.ref p]/\BoxAt H p n/\n<=900000/\∀(v:V)(H':Hp),YW v->BoxAt H' p (n+50)->Kp p H H'->Q v H'
def ZiZ:List Stmt->Str
 | .Assign _ (.Constant (.str x) _ _) _::_=>x
 | _::r=>ZiZ r
 | []=>Str.empty
theorem Zek {X:Cx}{K:Qa}(S:X.K=K)(Y:X.calm=true){xa xb:Str}{B z Z:Pos}{j:Nat}{I G:TG}(J:PG X (.Name xa B) I)(W:PG X (.Name xb z) G):PG X (.Tuple [.Name xa B,.Name xb z] j Z) (gTup K 2 (ZfU I (ZfU G gNil))):=by
 subst S
 exact WZ Y (Yt J (Yt W Wh))
theorem FnOk.ex {P:Qj}{w:Qr}{K:Qa}{mg:Str->Option Qb}{base:Heap}{k:Nat}{f:Addr}{fd:Qi}{ps:List Str}{ok:List Str->Prop}{sp:List Str->Sp}(F:∀ NS,ok NS->FnOk P w K mg base ZH k f fd ps (sp NS)) :
 FnOk P w K mg base ZH k f fd ps (fun vs H Q E=>∃ NS,ok NS/\sp NS vs H Q E) :=
 ⟨fun vs H Q E ⟨NS,N,h⟩=>(F NS N).len vs H Q E h,fun A outer s H args us vs Q E z I G B ⟨NS,N,h⟩=>(F NS N).run A outer s H args us vs Q E z I G B h⟩
def ZfM (P:Qj)(w:Qr)(K:Qa)(mg:Str->Option Qb)(base:Heap)(k:Nat)(C:Addr)(x:Str)(ps:List Str)(sp:Sp):Prop:=∃ f fd,FnOk P w K mg base ZH k f fd ps sp/\Binds K fd ps []/\Mk K C f/\mg x=some (.ref C)
theorem Zjd {X:Cx}{k:Nat}{C:Addr}{x:Str}{ps:List Str}{sp:Sp}{p pos:Pos}(D:ZfM X.prog X.w X.K X.mg X.base k C x ps sp)(G:Room (k+1) X.A)(B:Gl X x:=by rfl)(z:(x == ("__debug__":Str))=false:=by decide) :
 PE X (.Call (.Name x p) [] [] pos) (Zjm C sp [] E0 Wr):=by
 obtain ⟨f,fd,F,b,M,m⟩:=D
 exact ZhL M F G B m b .nil Zcw z
theorem SqL.obj {K:Qa}{H:Hp}{a:Addr}{xs:List V}(h:SqL K H a xs):(∀ H',SqL K H' a xs)\/∃ o,H a=some o/\(∀ tb,o≠.tbl tb)/\∀ H',H' a=some o->SqL K H' a xs:=by
 rcases h with (h | ⟨o,h⟩) | h
 ·exact .inr ⟨_,h,(fun tb z=>by cases z),fun H' e=>.inl (.inl e)⟩
 ·exact .inr ⟨_,h,(fun tb z=>by cases z),fun H' e=>.inl (.inr ⟨o,e⟩)⟩
 ·exact .inl fun H'=>.inr h
theorem YQ {H H':Hp}{a:Addr}(s:Same H H')(h:H' a=none):H a=none:=by
 cases e:H a with
 | none=>rfl
 | some o=>rw [s _ _ e] at h;cases h
end L2
namespace L2
open PySem PySem.Spec PyProof.Rows
theorem Sep.nest {a:Addr}{Δ:Rs}:∀{Γ:Rs}{H h:Hp},Same h H->Sep Γ h->Sep Δ (WE H h)->Sep (Γ++Δ) H
 | [],_,_,_,_,S=>S.mono ZaE
 | (b,T)::Γ,H,h,l,⟨g,m,t,G⟩,S=>by
  refine ⟨g,m.trans l,t,Sep.nest (a:=a) (h:=WE h g) (ZcA l) G (S.mono fun c o e=>?_)⟩
  obtain ⟨e1,z⟩:=cut_some.mp e
  refine cut_some.mpr ⟨cut_some.mpr ⟨e1,fun u q=>z u (m _ _ q)⟩,fun u q=>z u (cut_some.mp q).1⟩
theorem Sep.pack' {Δ:Rs}:∀{Γ:Rs}{H:Hp},Sep (Γ++Δ) H->∃ h,Same h H/\Sep Γ h/\Sep Δ (WE H h)
 | [],H,S=>⟨fun _=>none,fun b o e=>(by cases e),trivial,S.mono fun b o e=>cut_some.mpr ⟨e,fun u q=>(by cases q)⟩⟩
 | (b,T)::Γ,H,⟨g,m,t,S⟩=>by
  obtain ⟨h',I,G,S⟩:=Sep.pack' S
  refine ⟨fun c=>match g c with | some o=>some o | none=>h' c,fun c o e=>?_,⟨g,fun c o e=>?_,t,G.mono fun c o e=>?_⟩,S.mono fun c o e=>?_⟩
  ·cases q:g c with
   | some u=>simp only [q] at e;cases e;exact m _ _ q
   | none=>simp only [q] at e;exact (cut_some.mp (I _ _ e)).1
  ·simp only [e]
  ·obtain ⟨e1,B⟩:=cut_some.mp (I _ _ e)
   refine cut_some.mpr ⟨?_,B⟩
   cases q:g c with
   | some u=>simp only [q];rw [m _ _ q] at e1;exact e1
   | none=>simp only [q];exact e
  ·obtain ⟨e1,B⟩:=cut_some.mp e
   obtain ⟨J,W⟩:=cut_some.mp e1
   refine cut_some.mpr ⟨J,fun u q=>?_⟩
   cases z:g c with
   | some v=>simp only [z] at q;cases q;exact W _ z
   | none=>simp only [z] at q;exact B _ q
theorem Sep.pack {a:Addr}{Γ Δ:Rs}{H:Hp}{R:Yv}(S:Sep (Γ++Δ) H)(f:∀ h,Sep Γ h->R a h):Sep ((a,R)::Δ) H:=by
 obtain ⟨h,l,G,S⟩:=Sep.pack' S
 exact ⟨h,l,f h G,S⟩
section
variable {X:Cx}
def rNeD:R2:=fun x y H Q=>∃ dx dy,DataOf H x dx/\DataOf H y dy/\dx.canLay0=true/\dy.canLay0=true/\dx.depth<=60/\Q (.bl (!PyData.eqv dx dy)) H
theorem ZlY (hu:X.A.units+64 < cLine):YY X (Gu .NotEq) rNeD:=by
 intro pins s σ H x y v u Q I z B h
 obtain ⟨dx,dy,G,J,Y,Z,hd,q⟩:=h
 obtain ⟨_,as,S⟩:=DataOf.reads I.hok v G z
 obtain ⟨_,bs,W⟩:=DataOf.reads I.hok u J B
 exact SeqAt.compareNe_reads S W Y Z (by omega) ⟨.bl _,H,I,rfl,q⟩
end
section
variable {X:Cx}{k:Nat}{C:Addr}{x m:Str}{ps:List Str}{sp:Sp}{p pos apos:Pos}{o:Expr}{ta:TE}
theorem Uj {pl:Sem Bool}(D:DefM X.prog X.w X.K X.mg X.base k C m ps sp)(c:Cls X.K C)(B:Room k X.A)(I:PE X o ta)
 (G:eval (.Call (.Attribute o m apos) [] [] pos) X.env=(do
  let z <- eval o X.env
  Te apos.atName
  let (f,first) <- JB [z] (PJ z m pl)
  TK pos f first (GP pos (Qz [] X.env)) (Pf pos (GX [] X.env))):=by rfl) :
 PE X (.Call (.Attribute o m apos) [] [] pos) (Zcr C m sp [] E0 ta Wr):=by
 obtain ⟨f,fd,F,b,q⟩:=D
 exact Ziw I c q F B b .nil Zcw G
end
def Zfn (K:Qa)(a:Addr):It :=
 ⟨fun i H=>∃ xs x,SqL K H a xs/\xs[i]?=some x,fun i H v H'=>∃ t x,H t=none/\(∀ xs,SqL K H a xs->xs[i]?=some x)/\v=.ref t/\H'=upd H t (.tup [.int (i:Int),x]),fun i H=>∃ xs,SqL K H a xs/\xs.length<=i⟩
theorem ZfE {P:Qj}{w:Qr}{K:Qa}{Y:List Expr}{x1:Nat}{tp:Pos}(a e B:Addr)(W:e≠B)(hai:a≠B)(hae:a≠e) :
 Vo P w K (.Tuple Y x1 tp) (Zfn K a) [e,B] e (fun i h=>(∃ old,IsEnum h e B (i:Int) old)/\h.IsListIter B a i) where
 mem:=by simp
 obj:=fun i h st b hb=>by
  obtain ⟨⟨old,G⟩,⟨o,ho,c,d⟩⟩:=st
  rcases mem_cons.mp hb with q | hb
  ·rw [q];exact ⟨_,G,fun v z=>by cases z⟩
  ·rw [mem_singleton.mp hb];exact ⟨o,ho,fun v z=>by rw [d] at z;cases z⟩
 keep:=fun i h h' st k=>by
  obtain ⟨⟨old,G⟩,st⟩:=st
  exact ⟨⟨old,k e (by simp) _ G⟩,st.at fun o y=>k B (by simp) o y⟩
 item:=by
  intro X hP hw hK hc i pins s σ H E I hf st hg
  subst hP hw hK
  obtain ⟨⟨old,G⟩,hs⟩:=st
  obtain ⟨xs,x,hq,hx⟩:=hg
  obtain ⟨J,rv,p,hz⟩:=I.list hq
  obtain ⟨u,hu,ru⟩:=rv.get hx
  have hlt:i < J.toArray.size:=by
   have:=(Qn.mp hu).1
   simpa using this
  have D:=Draws.list (prog:=X.prog) (w:=X.w) (A:=X.A.in1) (I.ok.hd hc) B a hai J.toArray
  refine TQ (i:=i) D G ⟨hs,p.isList⟩ hlt W (by simp [W,Gg hae]) fun v h' tk hP Z hst hT hsz hk=>?_
  have ev:v=u:=by
   have:J[i]?=some v:=by simpa using hP
   rw [hu] at this;exact (Qv this).symm
  subst ev
  have hel:e < s.heap.objs.size:=Qf G
  have hil:B < s.heap.objs.size:=by obtain ⟨o,ho,_⟩:=hs;exact Qf ho
  refine ⟨_,rfl,PV Z fun h2 he2 hs2=>?_⟩
  generalize hO:({ cls:=.type "tuple",data:=.seq #[.int ((i:Nat):Int) tk,v] }:Obj)=O at hT
  have I1:Inv X pins σ (upd H s.heap.objs.size (.tup [.int (i:Int),x])) { s with heap:=s.heap.push O,toks:=tk+1 }:=by
   refine I.laid (t':=tk+1) (fun b o y=>Qc _ y) (Qg _) (show ObjOk X.prog X.w _ _ _ (.tup _) from ⟨by show 2<=Qh;decide,[.int ((i:Nat):Int) tk,v],.cons ⟨tk,rfl⟩ (.cons ru .nil),?_⟩)
   rw [<- hO];exact TH _ _
  have S:=I.hok.fresh (Qg s.heap.objs.size)
  have hf2:∀ b∈[e,B],Xy X pins (upd H s.heap.objs.size (.tup [.int (i:Int),x])) b:=fun b hb=>by
   obtain ⟨f0,f1⟩:=hf b hb
   have hb':b≠s.heap.objs.size:=by
    rcases mem_cons.mp hb with q | hb
    ·rw [q];exact Qq hel
    ·rw [mem_singleton.mp hb];exact Qq hil
   exact ⟨by rw [Zi hb'];exact f0,f1⟩
  have I2:Inv X pins σ (upd H s.heap.objs.size (.tup [.int (i:Int),x])) { s with heap:=h2,toks:=tk+1 }:=by
   refine I1.turned2 (t':=tk+1) (h':=h2) (fun b o hb y=>?_) hf2
   have hbe:b≠e:=fun q=>hb (by simp [q])
   have hbi:b≠B:=fun q=>hb (by simp [q])
   rw [hs2.2 b hbe]
   rcases Pj y with ⟨q1,q2⟩ | y
   ·rw [q1,q2];exact hT
   ·exact hk b o hbe hbi y
  refine ⟨.ref s.heap.objs.size,_,I2,rfl,⟨s.heap.objs.size,x,S,fun ys hy=>by rw [I.list_inj hy hq];exact hx,rfl,rfl⟩,⟨⟨_,he2⟩,?_⟩,fun b hb=>(hf2 b hb).1⟩
  exact hst.1.at fun o y=>by rw [hs2.2 B W.symm];exact y
 done:=by
  intro X hP hw hK hc i pins s σ H E I hf st hg
  subst hP hw hK
  obtain ⟨⟨old,G⟩,hs⟩:=st
  obtain ⟨xs,hq,hle⟩:=hg
  obtain ⟨J,rv,p,hz⟩:=I.list hq
  have hl:=rv.length
  obtain ⟨f0,f1,f2,f3,f4,f5⟩:=hf B (by simp)
  exact wpAny_pyNext_enum_end (I.ok.hd hc) G hs p.isList (by simp;omega) fun h' eb=>⟨rfl,I.turned (t':=s.toks) (fun b o hb y=>eb b o hb y) f0 f1 f3 f4 f5⟩
 self:=fun _ _ _ _ _ st h=>by
  obtain ⟨⟨old,G⟩,_⟩:=st
  exact JM G h
def ZmA (K:Qa)(tl:TE):TI:=fun σ H R=>tl σ H fun v H1=>∃ a xs,[v]=[V.ref a]/\H1 a=some (.lst xs)/\R (Zfn K a) H1
section
variable {X:Cx}
theorem Zhq {l:Expr}{tl:TE}{G:List Expr}{x1:Nat}{tp p pos:Pos}(hg:Gl X "enumerate")(hm:X.mg "enumerate"=none)(hl:PE X l tl)
 (he:Qz [l] X.env=[(false,eval l X.env)]:=by rfl):PI X (.Tuple G x1 tp) (.Call (.Name "enumerate" p) [l] [] pos) (ZmA X.K tl):=by
 intro pins s σ H R I h
 have ha:PA X [l] (Xu tl Wr):=Yu hl Za he
 refine QP (Ww I hg hm boot_enumerate ?_)
 refine Gy (Zu (ha pos pins s σ H (fun vs H1=>∃ a xs,vs=[V.ref a]/\H1 a=some (.lst xs)/\R (Zfn X.K a) H1) I h) fun us s1 ⟨vs,H1,B,r1,a,xs,e,ea,q⟩=>?_) he rfl
 subst e
 obtain ⟨u,rfl,r⟩:=YC r1
 cases r
 obtain ⟨z,its,n,rv,hll,Z⟩:=B.lstM ea
 have J:a < s1.heap.objs.size:=Qf Z
 refine call_enumerate_1 Z fun h' Y W hsz S=>JM Y ?_
 refine ⟨s1.heap.objs.size+1,[s1.heap.objs.size+1,s1.heap.objs.size],_,_,H1,rfl,B.kept (t':=s1.toks) S,ZfE a _ _ (OG _) (Qq J) (Qq (Jj J)),⟨⟨_,Y⟩,W⟩,fun b hb=>?_,q⟩
 rcases mem_cons.mp hb with z | hb
 ·rw [z];exact B.fpOk (GA _) (B.hok.fresh (GA _))
 ·rw [mem_singleton.mp hb];exact B.fpOk (Qg _) (B.hok.fresh (Qg _))
end
def ZmS (i j k:Nat)(ta:TA):TS:=fun D σ H=>ta σ H fun vs H1=>∃ u v w,vs=[u,v,w]/\D.nx (((σ.set i (some u)).set j (some v)).set k (some w)) H1
theorem Zks {X:Cx}{pos:Pos}{i j k:Nat}{x y z:Str}{a b c:Expr}{ta:TA}{px py pz pt:Pos}{kt k2 pt2}(hc:X.calm=true)(Y:X.N.Nodup)(hi:X.N[i]?=some x)(hj:X.N[j]?=some y)(hk:X.N[k]?=some z)(hij:i≠j)(hik:i≠k)(hjk:j≠k)
 (hx:X.env.scope.names.lookup x=some .local) (hy:X.env.scope.names.lookup y=some .local) (hz:X.env.scope.names.lookup z=some .local) (ha:PA X [a,b,c] ta)
 (hw:Rp [.Tuple [.Name x px,.Name y py,.Name z pz] kt pt] (.Tuple [a,b,c] k2 pt2) X.env=pure (some [x,y,z]))
 (hs:Ro [.Tuple [.Name x px,.Name y py,.Name z pz] kt pt] (.Tuple [a,b,c] k2 pt2) pos.line X.env=pure false:=by rfl) :
 PS X (.Assign [.Tuple [.Name x px,.Name y py,.Name z pz] kt pt] (.Tuple [a,b,c] k2 pt2) pos) (ZmS i j k ta):=by
 intro pins s σ H D I h
 rw [OX]
 refine Qe (Gr ?_)
 rw [hs]
 refine Qe (Qu ?_)
 rw [if_neg (by decide)]
 refine Qe (Tuple_ (Zu (ha _ pins s σ H _ I h) fun us s1 ⟨vs,H1,I1,r1,Z⟩=>?_))
 obtain ⟨v1,v2,v3,e1,Z⟩:=Z
 subst e1
 obtain ⟨G,B,J,rfl,rv1,rv2,W⟩:∃ G B J,us=[G,B,J]/\RelV v1 G/\RelV v2 B/\RelV v3 J:=by
  cases r1 with
  | cons p q =>
   cases q with
   | cons p' q' =>
    cases q' with
    | cons p'' q'' =>
     cases q''
     exact ⟨_,_,_,rfl,p,p',p''⟩
 refine JC ?_ (by show 3<=Qh;decide)
 have I2:Inv X pins σ H1 { s1 with heap:=s1.heap.push { cls:=.type "tuple",data:=.seq [G,B,J].toArray } }:=I1.kept (t':=s1.toks) fun b o e=>Qc _ e
 rw [hw]
 refine Qe (Qu ?_)
 show Qp (Qs X.prog X.w) X.A (do rule "assign.swapped-stores";let items <- unpackItems (.ref s1.heap.objs.size) 3 none;Pa [fun v=>Jm X.env z v,fun v=>Jm X.env y v,fun v=>Jm X.env x v] items.reverse;pure Oy) _ _ _
 refine Qe (RA (Qe (RU (items:=#[G,B,J]) (I.ok.hd hc) (TH s1.heap _) fun h' S=>?_)))
 have I3:=I2.kept (h':=h') (t':=s1.toks) fun b o e=>S b o (Qq (Qf e)) e
 show Qp _ _ (Pa [fun v=>Jm X.env z v,fun v=>Jm X.env y v,fun v=>Jm X.env x v] [J,B,G] >>= fun _=>pure Oy) _ _ _
 refine Qe (GC (JD (Xe I3 Y hk (.inl hz) W (fun s2 I4=>?_) (.inr hz))))
 refine GC (JD (Xe I4 Y hj (.inl hy) rv2 (fun s3 I5=>?_) (.inr hy)))
 refine GC (JD (Xe I5 Y hi (.inl hx) rv1 (fun s4 I6=>Tf (Qu ?_)) (.inr hx)))
 rw [To _ _ (Gg hjk),To _ _ (Gg hik),To _ _ (Gg hij)] at I6
 exact ⟨_,H1,I6,Z⟩
theorem Zcc {X:Cx}{K:Qa}(z:X.K=K):YY X (Gu .NotIn) (rIn K true):=by subst z;exact Vm
theorem ZhT {X:Cx}{K:Qa}(z:X.K=K):SlR X (rSlL K):=by subst z;exact Zbl
theorem ZcO {z G:Type}{f g:z->Option G}:∀{l:List z},(∀ x∈l,f x=g x)->l.filterMap f=l.filterMap g
 | [],_=>rfl
 | x::l,h=>by
  rw [filterMap_cons,filterMap_cons,h x mem_cons_self,ZcO fun y B=>h y (mem_cons_of_mem _ B)]
theorem ZhI (z:List Qb):OE z.toArray none none (some (-1))=z.reverse.toArray:=by
 have W:GY none none (some (-1)) z.toArray.size=((z.length:Int) - 1,-1,-1):=by
  unfold GY
  simp
 unfold OE
 rw [W]
 have S:RJ ((z.length:Int) - 1) (-1) (-1)=(QW z.length).map fun k=>z.length - 1 - k:=by
  unfold RJ
  have e1:(if (-1:Int) > 0 then (if (z.length:Int) - 1 < -1 then (-1 - ((z.length:Int) - 1)+-1 - 1) / -1 else 0) else (if (z.length:Int) - 1 > -1 then ((z.length:Int) - 1 - -1 - -1 - 1) / (- -1) else 0)).toNat=z.length:=by
   rw [if_neg (by decide)]
   split
   ·rw [show (- -1:Int)=1 by decide,Ol];omega
   ·omega
  dsimp only
  rw [e1]
  apply Js
  intro k I
  have:=mem_range.mp I
  omega
 dsimp only
 rw [S,RL]
 congr 1
 have B:∀ (l:List Qb),(QW l.length).filterMap ((fun i=>l[i]?) ∘ fun k=>l.length - 1 - k)=l.reverse:=by
  intro l
  have h1:(QW l.length).filterMap ((fun i=>l[i]?) ∘ fun k=>l.length - 1 - k)=(QW l.reverse.length).filterMap (fun k=>l.reverse[k]?):=by
   rw [Ri]
   refine ZcO fun k I=>?_
   have G:=mem_range.mp I
   show l[l.length - 1 - k]?=l.reverse[k]?
   rw [List.getElem?_reverse G]
  rw [h1]
  have J:∀ (m:List Qb) (n:Nat),(QW n).filterMap (fun k=>m[k]?)=m.take n:=by
   intro m n
   induction n with
   | zero=>simp
   | succ n ih =>
    rw [Sv,SD,ih,Jh]
    cases e:m[n]?<;>simp [e]
  rw [J,take_of_length_le (Qg _)]
 have:=B z
 simpa using this
def ZmL (K:Qa)(te:TE):TE:=fun σ H Q=>te σ H fun x H1=>∃ a xs,x=.ref a/\SqL K H1 a xs/\∀ p,H1 p=none->Q (.ref p) (upd H1 p (.lst xs.reverse))
section
variable {X:Cx}
theorem Zej {e:Expr}{te:TE}{k:Nat}{pc pu p2 pos:Pos}(he:PE X e te):PE X (.Subscript e (.Slice none none (some (.UnaryOp .USub (.Constant (.int 1) k pc) pu)) p2) pos) (ZmL X.K te):=by
 intro pins s σ H Q I h
 refine RE (Zu (he pins s σ H _ I h) fun v s1 ⟨x,H1,I1,r1,a,xs,ex,hx,q1⟩=>?_)
 subst ex
 cases r1
 refine wpAny_Slice (Zu (XM pins s1 σ H1 (fun o H2=>o=none/\H2=H1) I1 ⟨rfl,rfl⟩) fun vl s2 ⟨l,H2,I2,pl,el,eh⟩=>Zu (XM pins s2 σ H2 (fun o G=>o=none/\G=H2) I2 ⟨rfl,rfl⟩) fun vu s3 ⟨u,G,I3,pu',eu,Y⟩=>?_)
 subst el eh eu Y
 refine Zu (Wq (X:=X) (UN Uc Ze) pins s3 σ G (fun o S=>o=some (-1)/\S=G) I3 ⟨_,rfl,_,rfl,rfl,rfl⟩) fun B z ⟨o,S,I4,ps,eo,Z⟩=>?_
 subst eo Z
 have J:Inv X pins σ S { z with heap:=z.heap.push { cls:=.type "slice",data:=.fields #[vl,vu,B] } }:=I4.kept (t':=z.toks) fun b ob q=>Qc _ q
 obtain ⟨W,r,ht,hz⟩:=J.list hx
 have hlen:=r.length
 show Qp (Qs X.prog X.w) X.A (Rq e (.Slice none none (some (.UnaryOp .USub (.Constant (.int 1) k pc) pu)) p2) (.ref a) (.ref z.heap.objs.size)) (EP X pins σ Q) X.xe { z with heap:=z.heap.push { cls:=.type "slice",data:=.fields #[vl,vu,B] } }
 refine tail_any (ops:=[.ref a,.ref z.heap.objs.size]) ht.isList.typeIs Th.lookup ?_ (by with_unfolding_all rfl)
 refine Tq ht.isList (RF ..) pl pu' ps (by decide) ?_ (by rw [size_toArray];omega)
 rw [ZhI]
 refine ⟨.ref _,_,J.laid (t':=z.toks) (o:=.lst xs.reverse) (fun b ob q=>Qc _ q) (Qg _) ?_,rfl,q1 _ (J.hok.fresh (Qg _))⟩
 exact ⟨by rw [Ri];exact hz,W.reverse,0,r.reverse,Qo _ rfl⟩
end
end L2
namespace L2
open PySem
theorem Sep.newE {Δ:Rs}{H H2:Hp}{o:HO}(S:Sep Δ H){p:Addr}(hp:H p=none)(e:upd H p o=H2):Sep ((p,Pt o)::Δ) H2:=e ▸ S.new hp o
theorem Sep.putE {Δ z:Rs}{H H2:Hp}{o o':HO}{a:Addr}(S:Sep Δ H)(e:upd H a o'=H2)[P:Pull a Δ (Pt o) z](m:Yx o=true:=by rfl):Sep ((a,Pt o')::z) H2:=e ▸ S.put a o' m
theorem Wt {lo:Int}{n:Nat}{te:TE}{σ:St}{D:Addr}{Q:VK}{H:Hp}{Δ:Rs}(hn:n<=Qh)(S:Sep Δ H)(hD:H D=none)(J:Nat->List V->Rs->Prop)(h0:J 0 [] Δ)
 (Y:∀ i ys Δ H,i < n->ys.length=i->J i ys Δ->Sep ((D,Ye ys)::Δ) H->te (σ++[some (.int (lo+i))]) H fun y G=>∃ z,J (i+1) (ys++[y]) z/\Sep ((D,Ye ys)::z) G)
 (Z:∀ ys Δ H,J n ys Δ->ys.length=n->Sep ((D,Ye ys)::Δ) H->Q (.ref D) H):CompW (Itr lo n) te σ D Q H:=by
 refine ⟨fun i m ys H=>m=n - i/\i<=n/\ys.length=i/\∃ Δ,J i ys Δ/\Sep ((D,Ye ys)::Δ) H,⟨n,by simp,QF _,rfl,Δ,h0,S.new hD _⟩,?_⟩
 rintro i m ys H2 ⟨rfl,hi,I,Δ,j,S⟩
 by_cases B:i < n
 ·refine .inr ⟨B,_,fun y G (q:∃ z,J (i+1) (ys++[y]) z/\Sep ((D,Ye ys)::z) G)=>?_,fun v H3 y=>?_⟩
  ·obtain ⟨z,j',W⟩:=q
   exact ⟨W.get D,by omega,n - (i+1),by omega,rfl,B,by simp [I],z,j',W.put D _⟩
  ·obtain ⟨e1,e2⟩:=y
   subst e1 e2
   exact Y i ys Δ _ B I j S
 ·have e:i=n:=by omega
  exact .inl ⟨by show n<=i;omega,Z ys Δ H2 (e ▸ j) (by omega) S⟩
theorem Zdg {K:Qa}{a:Addr}{xs:List V}{g:TG}{tc:TT}{te:TE}{σ:St}{D:Addr}{Q:VK}{H:Hp}{Δ:Rs}(hn:xs.length<=Qh)(S:Sep Δ H)(hD:H D=none)(J:Nat->List V->Rs->Prop)(h0:J 0 [] Δ)
 (ha:∀ i ys Δ H,J i ys Δ->Sep ((D,Ye ys)::Δ) H->SqL K H a xs)
 (hs:∀ i x t ys Δ H Y W,xs[i]?=some x->ys.length<=i->J i ys Δ->Sep ((t,VP [.int (i:Int),x])::(D,Ye ys)::Δ) H->g (.ref t) (σ++[Y,W]) H fun G H'=>(∃ Y W,G=σ++[Y,W])/\tc G H' fun b H3=>if b=true then te G H3 fun y I=>∃ z,J (i+1) (ys++[y]) z/\Sep ((D,Ye ys)::z) I else ∃ z,J (i+1) ys z/\Sep ((D,Ye ys)::z) H3)
 (hd:∀ ys Δ H,J xs.length ys Δ->ys.length<=xs.length->Sep ((D,Ye ys)::Δ) H->Q (.ref D) H):CompVT (Zfn K a) g tc te σ D Q H:=by
 refine ⟨fun i m ys H=>m=xs.length - i/\i<=xs.length/\ys.length<=i/\∃ Δ,J i ys Δ/\Sep ((D,Ye ys)::Δ) H,⟨xs.length,by simp,QF _,Qg _,Δ,h0,S.new hD _⟩,?_⟩
 rintro i m ys H2 ⟨rfl,hi,hl,Δ,j,S⟩
 have q:=ha i ys Δ H2 j S
 by_cases B:i < xs.length
 ·refine .inr ⟨⟨xs,xs[i],q,by simp [B]⟩,_,_,fun y I (q:∃ z,J (i+1) (ys++[y]) z/\Sep ((D,Ye ys)::z) I)=>?_,fun I (q:∃ z,J (i+1) ys z/\Sep ((D,Ye ys)::z) I)=>?_,fun Y W v H3 y=>?_⟩
  ·obtain ⟨z,j',Z⟩:=q
   exact ⟨Z.get D,by omega,xs.length - (i+1),by omega,rfl,B,by simp;omega,z,j',Z.put D _⟩
  ·obtain ⟨z,j',Z⟩:=q
   exact ⟨xs.length - (i+1),by omega,rfl,B,by omega,z,j',Z⟩
  ·obtain ⟨t,x,e1,e2,e3,e4⟩:=y
   subst e3 e4
   exact hs i x t ys Δ _ Y W (e2 xs q) hl j (S.new e1 _)
 ·have e:i=xs.length:=by omega
  exact .inl ⟨⟨xs,q,by omega⟩,hd ys Δ H2 (e ▸ j) (by omega) S⟩
end L2
namespace L2
open PySem PySem.W PySem.Spec PyProof.Rows
section
variable {prog:Qj}{w:Qr}{A:QG}{E:Qb->Qd->Prop}{s:Qd}{a:Addr}{as:List Addr}{ks:List Str}{P:Rc->Qd->Prop}
end
def Wl (ps:List (Str×V)):Prop:=ps.Pairwise fun p q=>¬ (q.1.cps.toList < p.1.cps.toList)
def Zag (H:Hp)(a:Addr):V:=match H a with
 | some (.tup [_,v])=>v
 | _=>.non
theorem ZfH {H:Hp}{ts I:List Addr}{ps:List (Str×V)}(h:PairT H ts ps)(o:ZcD (ps.map (·.1)) ts I):∃ G,G.Perm ps/\Wl G/\PairT H I G:=by
 obtain ⟨zs,hp,e,S⟩:=o
 have val:∀ (i:Nat) (a:Addr) (p:Str×V),ts[i]?=some a->ps[i]?=some p->Zag H a=p.2:=fun i a p e1 B=>by unfold Zag;rw [h.2 i a p e1 B]
 have W:((ps.map (·.1)).zip ts).map (fun z=>(z.1,Zag H z.2))=ps:=by
  apply Oq
  intro i
  rw [getElem?_map]
  cases B:ps[i]? with
  | none =>
   have:((ps.map (·.1)).zip ts)[i]?=none:=by
    rw [Ta] at B ⊢
    rw [Px,length_map];omega
   rw [this];rfl
  | some p =>
   have hi:i < ps.length:=(Qn.mp B).1
   obtain ⟨a,ea⟩:∃ a,ts[i]?=some a:=⟨_,getElem?_eq_getElem (by rw [h.1];exact hi)⟩
   have:((ps.map (·.1)).zip ts)[i]?=some (p.1,a):=by
    rw [getElem?_zip_eq_some]
    exact ⟨by rw [getElem?_map,B];rfl,ea⟩
   rw [this]
   show some (p.1,Zag H a)=some p
   rw [val i a p ea B]
 refine ⟨zs.map fun z=>(z.1,Zag H z.2),?_,?_,?_⟩
 ·have:=hp.map fun z:Str×Addr=>(z.1,Zag H z.2)
  rwa [W] at this
 ·unfold Wl;rw [pairwise_map];exact S
 ·refine ⟨by rw [e,length_map,length_map],fun i a p e1 B=>?_⟩
  rw [e,getElem?_map] at e1
  rw [getElem?_map] at B
  cases ez:zs[i]? with
  | none=>rw [ez] at e1;cases e1
  | some z =>
   rw [ez] at e1 B
   cases (show some z.2=some a from e1)
   cases (show some (z.1,Zag H z.2)=some p from B)
   have Y:=hp.mem_iff.mp (mem_of_getElem? ez)
   obtain ⟨j,hj⟩:=Jg.mp Y
   rw [getElem?_zip_eq_some] at hj
   obtain ⟨h1,h2⟩:=hj
   rw [getElem?_map] at h1
   cases e3:ps[j]? with
   | none=>rw [e3] at h1;cases h1
   | some pj =>
    rw [e3] at h1
    have J:pj.1=z.1:=by simpa using h1
    have:=h.2 j z.2 pj h2 e3
    rw [this,val j z.2 pj h2 e3,J]
section
variable {X:Cx}
end
end L2
namespace L2
open PySem
def XU (x:Str):Prop:=1<=x.length/\x.length<=8/\x.cps.toList.all UL=true
theorem YM (c:Nat):(⟨#[c]⟩:Str).length=1:=rfl
theorem ZcL {P:Nat->Bool}:∀{l:List Str},(∀ z∈l,∃ c,z=⟨#[c]⟩/\P c=true)->(l.map (·.length)).sum=l.length/\(l.flatMap (·.cps.toList)).length=l.length/\(l.flatMap (·.cps.toList)).all P=true
 | [],_=>⟨rfl,rfl,rfl⟩
 | z :: r,h=>by
  obtain ⟨c,rfl,S⟩:=h z mem_cons_self
  obtain ⟨G,B,J⟩:=ZcL (l:=r) fun y W=>h y (mem_cons_of_mem _ W)
  refine ⟨?_,?_,?_⟩
  ·rw [map_cons,List.sum_cons,G,length_cons];show 1+_=_;omega
  ·have I:((⟨#[c]⟩:Str)::r).flatMap (·.cps.toList)=c::r.flatMap (·.cps.toList):=rfl
   rw [I,length_cons,length_cons,B]
  ·rw [Ti,Sy,J];simp [S]
theorem Zhk {P:Nat->Bool}{zs:List Str}(h:∀ z∈zs,∃ c,z=⟨#[c]⟩/\P c=true):(zs.map (·.length)).sum+zs.length * (QI "").length<=2 * zs.length/\(Txt.join (QI "") zs).length=zs.length/\(Txt.join (QI "") zs).cps.toList.all P=true:=by
 obtain ⟨I,B,G⟩:=ZcL h
 refine ⟨?_,?_,?_⟩
 ·rw [I];show _+_ * 0<=_;omega
 ·rw [Ym,WH,B]
 ·rw [WH];exact G
theorem WP {P:Nat->Bool}{x y:Str}(h1:x.cps.toList.all P=true)(h2:y.cps.toList.all P=true):(x++y).cps.toList.all P=true:=by
 rw [Vj,Sy,h1,h2];rfl
theorem UK {P:Nat->Bool}{c:Nat}(h:P c=true):(⟨#[c]⟩:Str).cps.toList.all P=true:=by
 show [c].all P=true;simp [h]
theorem UV {P:Nat->Bool}{x:Str}{lo hi:Option Int}(h:x.cps.toList.all P=true):(Txt.slice x lo hi).cps.toList.all P=true:=by
 rw [Wu]
 rw [all_eq_true] at h ⊢
 exact fun c z=>h c (List.mem_of_mem_drop (SW z))
theorem Zge {x:Str}{k:Int}(I:0<=k)(h1:k<=x.length):(Txt.slice x none (some k)).length+(Txt.slice x (some k) none).length=x.length:=by
 have B:¬ k < 0:=by omega
 rw [Ym,Ym,Wu,Wu,Ym]
 rw [Ym] at h1
 have e1:HT.sIx x.cps.toList.length 0 none=0:=rfl
 have G:HT.sIx x.cps.toList.length x.cps.toList.length none=x.cps.toList.length:=rfl
 have z:∀ d,HT.sIx x.cps.toList.length d (some k)=k.toNat:=fun d=>by
  unfold HT.sIx
  simp only [B,if_false]
  omega
 rw [e1,G,z,z,length_take,length_take,JX,JX]
 omega
theorem We {x:Str}{P:Nat->Bool}(G:x.cps.toList.all P=true){r:Int}(B:0<=r)(h1:r < x.length):∃ c,YK x.cps.toList r=some c/\P c=true:=by
 have z:r.toNat < x.cps.toList.length:=by rw [<- Ym];omega
 exact ⟨_,Zba B (getElem?_eq_getElem z),all_eq_true.mp G _ (Ge z)⟩
def a26:Str:="abcdefghijklmnopqrstuvwxyz"
theorem Xb:a26.length=26:=by decide +kernel
theorem UE:a26.cps.toList.all UL=true:=by decide +kernel
theorem ZgQ {z:Type}{f:z->V}{xs:List z}{r:Int}(G:0<=r)(h1:r < (xs.length:Int)):∃ x∈xs,YK (xs.map f) r=some (f x):=by
 have B:r.toNat < xs.length:=by omega
 exact ⟨_,Ge B,Zba G (by rw [getElem?_map,getElem?_eq_getElem B];rfl)⟩
theorem ZeQ {xs:List V}{r:Int}(B:0<=r)(h1:r < (xs.length:Int)):∃ x∈xs,YK xs r=some x:=by
 have z:r.toNat < xs.length:=by omega
 exact ⟨_,Ge z,Zba B (getElem?_eq_getElem z)⟩
theorem Sep.le {Δ:Rs}{H:Hp}{p:Addr}{n m:Nat}(S:Sep ((p,Bx n)::Δ) H)(h:n<=m):Sep ((p,Bx m)::Δ) H:=by
 obtain ⟨g,l,r,S⟩:=S
 exact ⟨g,l,BoxAt.le r h,S⟩
def Zaq:Sp:=fun vs H Q _=>∃(p:Addr)(n:Nat)(Δ:Rs),vs=[.ref p]/\Sep ((p,Bx n)::Δ) H/\n<=900000/\∀(v:V)(H':Hp),YW v->Sep ((p,Bx (n+50))::Δ) H'->Q v H'
theorem ZjI {vs:List V}{H:Hp}{Q:VK}{E:XK}(h:Zaq vs H Q E):Zeh vs H Q E:=by
 obtain ⟨p,n,Δ,e,S,h1,q⟩:=h
 exact ⟨p,n,e,S.get p,h1,fun v H' z B k=>q v H' z (S.box k B)⟩
def Zdd (K:Qa):Sp:=fun vs H Q _=>∃(a:Addr)(ns:List Int)(k:Int)(Δ:Rs),vs=[.ref a,.int k]/\SqL K H a (ns.map V.int)/\Sep Δ H/\0<=k/\k<=1000/\∀(p:Addr)(H':Hp),Same H H'->Sep ((p,Bx 0)::Δ) H'->Q (.ref p) H'
theorem Znj {K:Qa}{vs:List V}{H:Hp}{Q:VK}{E:XK}(h:Zdd K vs H Q E):Zjo K vs H Q E:=by
 obtain ⟨a,I,k,Δ,e,G,S,h1,h2,q⟩:=h
 refine ⟨a,I,k,e,G,h1,h2,fun p H' hp B s=>q p H' s ?_⟩
 obtain ⟨x,y,z,J,w⟩:=B
 exact (S.made s hp J).say p (Bx 0) fun h r=>⟨x,y,z,r,w⟩
theorem ZcW {xs:List V}{i:Nat}:Zbx xs none (some (i:Int))=xs.take i:=by
 unfold Zbx
 rw [HT.sIx_none,HT.sIx_nat,List.drop_zero,Nat.sub_zero]
 by_cases h:i<=xs.length
 ·rw [Nat.min_eq_left h]
 ·rw [Nat.min_eq_right (by omega),take_of_length_le (Qg _),take_of_length_le (by omega)]
theorem Zkh {x:Str}{ys:List Str}:inV (.str x) (ys.map V.str)=decide (x∈ys):=by
 unfold inV
 induction ys with
 | nil=>rfl
 | cons y ys ih =>
  rw [map_cons,any_cons,ih]
  show ((y == x) || decide (x∈ys))=decide (x∈y::ys)
  by_cases h:y=x
  ·subst h;simp
  ·rw [show (y == x)=false from beq_eq_false_iff_ne.mpr h,Bool.false_or]
   congr 1
   simp [mem_cons,Gg h]
theorem ZgN (ys:List Str):(ys.map V.str).all WJ=true:=by
 rw [all_eq_true]
 intro v z
 obtain ⟨y,_,rfl⟩:=mem_map.mp z
 rfl
theorem Zfj:(QW 26).all (fun k=>decide (Txt.find a26 ⟨#[97+k]⟩=(k:Int)))=true:=by decide +kernel
theorem Zgu {c:Nat}(h:UL c=true):Txt.find a26 ⟨#[c]⟩=(c:Int) - 97/\97<=c/\c<=122:=by
 unfold UL at h
 simp only [QM,decide_eq_true_eq] at h
 have z:=of_decide_eq_true (all_eq_true.mp Zfj (c - 97) (mem_range.mpr (by omega)))
 rw [show 97+(c - 97)=c by omega] at z
 exact ⟨by rw [z];omega,h⟩
theorem Zic {x:Str}{P:Nat->Bool}(B:x.cps.toList.all P=true){r:Int}(G:-(x.length:Int)<=r)(h1:r < x.length):∃ c,YK x.cps.toList r=some c/\P c=true:=by
 by_cases h:0<=r
 ·exact We B h h1
 ·have z:(r+x.cps.toList.length).toNat < x.cps.toList.length:=by rw [<- Ym];omega
  refine ⟨x.cps.toList[(r+x.cps.toList.length).toNat],?_,all_eq_true.mp B _ (Ge z)⟩
  unfold YK Wz
  rw [if_neg h,if_pos (by rw [<- Ym];omega)]
  exact getElem?_eq_getElem z
theorem Zid (b:Bool)(z:Str):0<=(if b=true then (1:Int) else 0)/\(if b=true then (1:Int) else 0)<=1/\(QH (if b=true then (1:Int) else 0).toNat [V.str z]).flatten=(if b=true then [z] else []).map V.str:=by
 cases b
 ·exact ⟨by decide,by decide,rfl⟩
 ·exact ⟨by decide,by decide,rfl⟩
def YA (xs:List Str):Nat->List Str
 | 0=>[]
 | i+1=>match xs[i]? with
  | some x=>if x∈xs.take i then YA xs i else YA xs i++[x]
  | none=>YA xs i
theorem Xd {xs:List Str}:∀ i {x},x∈YA xs i↔x∈xs.take i
 | 0,x=>by simp [YA]
 | i + 1,x=>by
  unfold YA
  rw [Jh]
  cases e:xs[i]? with
  | none=>simp [Xd i]
  | some y =>
   dsimp only
   by_cases h:y∈xs.take i
   ·rw [if_pos h,Xd i]
    simp only [RP,mem_append,mem_singleton]
    exact ⟨.inl,fun z=>z.elim id fun z=>z ▸ h⟩
   ·rw [if_neg h]
    simp only [RP,mem_append,mem_singleton,Xd i]
theorem Ul {xs:List Str}:∀ i,(YA xs i).Nodup
 | 0=>JN
 | i + 1=>by
  unfold YA
  cases e:xs[i]? with
  | none=>exact Ul i
  | some y =>
   dsimp only
   by_cases h:y∈xs.take i
   ·rw [if_pos h];exact Ul i
   ·rw [if_neg h]
    refine List.nodup_append.mpr ⟨Ul i,by simp,fun a B b z=>?_⟩
    rw [mem_singleton.mp z]
    rintro rfl
    exact h ((Xd i).mp B)
theorem ZdW {z:Type}{xs:List z}{n:Nat}{x:z}(h:x∈xs.take n):x∈xs:=SW h
def ZcZ:Sp:=fun vs H Q _=>∃(p:Addr)(n:Nat)(Δ:Rs),vs=[.ref p]/\Sep ((p,Bx n)::Δ) H/\n<=800000/\∀(l:Addr)(H':Hp)(us:List V),Sep ((l,Ye us)::(p,Bx (n+200))::Δ) H'->us.length=5->(∀ u∈us,YW u)->Q (.ref l) H'
inductive Stp where
 | set (x:Str) (v:V)
 | clr (x:Str)
def Stp.vs:Stp->List V
 | .set x v=>[.str "set",.str x,v]
 | .clr x=>[.str "clear",.str x]
def Stp.ok (NS:List Str):Stp->Prop
 | .set x v=>x∈NS/\YW v
 | .clr x=>x∈NS
def Zgh:Sp:=fun vs H Q _=>∃(p nl vl:Addr)(n:Nat)(NS:List Str)(us:List V)(Δ:Rs),vs=[.ref p,.ref nl,.ref vl]/\Sep ((p,Bx n)::(nl,Ye (NS.map V.str))::(vl,Ye us)::Δ) H/\NS≠[]/\us≠[]/\NS.length<=1000/\us.length<=1000/\(∀ u∈us,YW u)/\n<=900000 /\
 ∀ (t:Addr) (H':Hp) (s:Stp),s.ok NS->Sep ((t,VP s.vs)::(p,Bx (n+3))::(nl,Ye (NS.map V.str))::(vl,Ye us)::Δ) H'->Q (.ref t) H'
class IsLst (R:Yv) (k:Nat):Prop where
 lst:∀ {a h},R a h->∃ xs,h a=some (.lst xs)/\xs.length=k
theorem Sep.isl {Δ B:Rs}{H:Hp}{R:Yv}{k:Nat}(S:Sep Δ H)(a:Addr)(I:IsLst R k)[P:Pull a Δ R B]:∃ xs,H a=some (.lst xs)/\xs.length=k:=by
 obtain ⟨h,l,r,_⟩:=P.out S
 obtain ⟨xs,e,z⟩:=I.lst r
 exact ⟨xs,l _ _ e,z⟩
def Zhf:Sp:=fun vs H Q _=>∃(p sl:Addr)(n k:Nat)(R:Yv)(Δ:Rs),vs=[.ref p,.ref sl]/\Sep ((p,Bx n)::(sl,R)::Δ) H/\IsLst R k/\1<=k/\k<=10000/\n<=900000 /\
 ∀ (r:Nat) (H':Hp),r < k->Sep ((p,Bx (n+3))::(sl,R)::Δ) H'->Q (.int (r:Int)) H'
def NvV (v:V):Prop:=v=.non\/YW v
def VZ:V->Jy
 | .int i=>.int i
 | .str x=>.str x
 | _=>.none
theorem Zen {H:Hp}{v:V}(h:NvV v):DataOf H v (VZ v):=by
 rcases h with rfl | h
 ·exact .non
 ·cases v<;>first | exact .int _ | exact .str _ | exact h.elim
def ZiX (p:Str×V):PyData:=.tuple [.str p.1,VZ p.2]
theorem Zaz {H:Hp}:∀{ts:List Addr}{ps:List (Str×V)},PairT H ts ps->(∀ p∈ps,YW p.2)->DatasOf H (ts.map V.ref) (ps.map ZiX)
 | [],[],_,_=>.nil
 | [],_::_,h,_=>by cases h.1
 | _::_,[],h,_=>by cases h.1
 | t::ts,p::ps,h,hv=>.cons (.tup (h.2 0 t p rfl rfl) (.cons (.str _) (.cons (Zen (.inr (hv p mem_cons_self))) .nil))) (Zaz ⟨by simpa using h.1,fun i a q e1 z=>h.2 (i+1) a q e1 z⟩ fun q B=>hv q (mem_cons_of_mem _ B))
theorem Zio {x y:Str}(h:x.cps.toList=y.cps.toList):x=y:=by
 cases x;cases y
 congr 1
 exact Array.toList_inj.mp h
theorem Zea {ps qs:List (Str×V)}(hp:Wl ps)(Y:Wl qs)(np:(ps.map (·.1)).Nodup)(S:(qs.map (·.1)).Nodup)(h:∀ z,z∈ps↔z∈qs):ps=qs:=by
 have J:∀ {l:List (Str×V)},(l.map (·.1)).Nodup->l.Nodup:=fun h=>(pairwise_map.mp h).imp fun a b=>a (by rw [b])
 have P:ps.Perm qs:=(List.perm_ext_iff_of_nodup (J np) (J S)).mpr h
 refine P.eq_of_pairwise (le:=fun (p q:Str×V)=>¬ (q.1.cps.toList < p.1.cps.toList)) (fun a b B G h1 h2=>?_) (show ps.Pairwise _ from hp) (show qs.Pairwise _ from Y)
 have e:a.1=b.1:=Zio (List.le_antisymm (List.not_lt.mp h1) (List.not_lt.mp h2))
 have inj:∀ {l:List (Str×V)},(l.map (·.1)).Nodup->∀ a∈l,∀ b∈l,a.1=b.1->a=b:=by
  intro l W a B b G e
  obtain ⟨i,hi,ea⟩:=Ph.mp B
  obtain ⟨j,hj,I⟩:=Ph.mp G
  have:i=j:=Zmv (l:=l.map (·.1)) (i:=i) (j:=j) (hi:=by rw [length_map];exact hi) (hj:=by rw [length_map];exact hj) W (by rw [OH,OH,ea,I,e])
  subst this
  rw [<- ea,<- I]
 exact inj S a (P.mem_iff.mp B) b G e
def Wb (K:Qa)(C:Addr)(nds:List Nd)(tabs:List (Zn×V)):Yv:=fun st h=>nds[0]?=some .bare/\∃ ln dt,StoreAt K C st ln dt h nds tabs
def ZcV (lp:Pos)(q:Str):Yv:=fun Pl h=>LamAt h Pl lp q
instance {K:Qa} {C:Addr} {nds:List Nd} {tabs:List (Zn×V)}:Up (Wb K C nds tabs):=⟨fun ⟨h0,ln,dt,h⟩ s=>⟨h0,ln,dt,h.keep s⟩⟩
theorem LamAt.same' {H H':Hp}{Pl:Addr}{z:Pos}{q:Str}(h:LamAt H Pl z q)(s:Same H H'):LamAt H' Pl z q:=by
 rcases h with h | ⟨c,h1,h2⟩
 ·exact .inl (s _ _ h)
 ·exact .inr ⟨c,s _ _ h1,s _ _ h2⟩
def some_of (H:Hp)(L:List Addr):Hp:=fun b=>if b∈L then H b else match H b with
 | some o=>if Yx o=true then none else some o
 | none=>none
theorem Wf {H:Hp}{L:List Addr}:Same (some_of H L) H:=fun b o e=>by
 unfold some_of at e
 split at e
 ·exact e
 ·split at e
  ·rename_i o' h'
   split at e
   ·cases e
   ·cases e;exact h'
  ·cases e
theorem XQ {H:Hp}{L:List Addr}{b:Addr}(h:b∈L):some_of H L b=H b:=by unfold some_of;rw [if_pos h]
theorem WO {H:Hp}{L:List Addr}{b:Addr}{o:HO}(e:H b=some o)(m:Yx o=false):some_of H L b=some o:=by
 unfold some_of
 split
 ·exact e
 ·simp only [e,m,GD,if_false]
theorem XI {H:Hp}{L:List Addr}{b:Addr}{o:HO}(e:some_of H L b=some o)(m:Yx o=true):b∈L:=by
 unfold some_of at e
 split at e
 ·assumption
 ·split at e
  ·split at e
   ·cases e
   ·rename_i h;cases e;exact absurd m h
  ·cases e
theorem Zep {H:Hp}{L:List Addr}:TF H (some_of H L):=⟨fun b xs e=>WO e rfl,fun b o u e=>WO e rfl⟩
theorem Sep.stoLam {K:Qa}{C st Pl:Addr}{lp:Pos}{q:Str}{nds:List Nd}{W:List (Zn×V)}{Δ:Rs}{H:Hp}(S:Sep ((st,Wb K C nds W)::(Pl,ZcV lp q)::Δ) H) :
 ∃ I J,StoreAt K C st I J H nds W/\nds[0]?=some .bare/\LamAt H Pl lp q/\∀ H' nds' G,StoreAt K C st I J H' nds' G->nds'[0]?=some .bare->LamAt H' Pl lp q->Kq [I,J,Pl] H H'->Sep ((st,Wb K C nds' G)::(Pl,ZcV lp q)::Δ) H':=by
 obtain ⟨h1,l1,⟨b0,I,J,r1⟩,h2,l2,r2,S⟩:=S
 have r2':LamAt h2 Pl lp q:=r2
 refine ⟨I,J,r1.keep l1,b0,(LamAt.same' r2' l2).same' ZaE,fun H' nds' G S' b0' L' kq=>?_⟩
 obtain ⟨tb,etb⟩:=r2'.tbl
 obtain ⟨tb',B⟩:=L'.tbl
 obtain ⟨dx,ob⟩:=r1.ob
 obtain ⟨as,nl,_⟩:=r1.nl
 obtain ⟨dx',Z⟩:=S'.ob
 obtain ⟨as',nl',Y,nod'⟩:=S'.nl
 have nPl:Pl ∉ [st,I,J]:=fun z=>by
  simp only [mem_cons,not_mem_nil,or_false] at z
  rcases z with z | z | z
  ·rw [z,Z] at B;cases B
  ·rw [z,nl'] at B;cases B
  ·rw [z,S'.tb] at B;cases B
 refine ⟨some_of H' [st,I,J],Wf,⟨b0',I,J,⟨⟨dx',by rw [XQ (by simp)];exact Z⟩,⟨as',by rw [XQ (by simp)];exact nl',Y,fun i a n e1 e2=>(nod' i a n e1 e2).tf Zep⟩,by rw [XQ (by simp)];exact S'.tb⟩⟩,?_⟩
 have imm:∀ b o,H' b=some o->Yx o=false->WE H' (some_of H' [st,I,J]) b=some o:=fun b o e m=>cut_some.mpr ⟨e,fun u z=>by have:=Wf _ _ z;rw [e] at this;cases this;exact m⟩
 refine ⟨some_of (WE H' (some_of H' [st,I,J])) [Pl],Wf,?_,S.mono fun b o e=>?_⟩
 ·have ePl:some_of (WE H' (some_of H' [st,I,J])) [Pl] Pl=H' Pl:=by
   rw [XQ (by simp)]
   have:WE H' (some_of H' [st,I,J]) Pl=some (.tbl tb'):=cut_some.mpr ⟨B,fun u z=>by
    cases m:Yx u with
    | false=>rfl
    | true=>exact absurd (XI z m) nPl⟩
   rw [this,B]
  rcases L' with z | ⟨c,z1,z2⟩
  ·exact .inl (by rw [ePl];exact z)
  ·refine .inr ⟨c,by rw [ePl];exact z1,?_⟩
   exact WO (imm _ _ z2 rfl) rfl
 ·obtain ⟨e1,e2⟩:=cut_some.mp e
  obtain ⟨e3,e4⟩:=cut_some.mp e1
  have n1:b≠I:=fun z=>by have:=e4 _ (z ▸ nl);cases this
  have n2:b≠J:=fun z=>by have:=e4 _ (z ▸ r1.tb);cases this
  have n3:b≠Pl:=fun z=>by have:=e2 _ (z ▸ etb);cases this
  have n4:b≠st:=fun z=>by have:=e4 _ (z ▸ ob);cases this
  have e5:=kq b o (by simp [n1,n2,n3]) e3
  refine cut_some.mpr ⟨cut_some.mpr ⟨e5,fun u z=>?_⟩,fun u z=>?_⟩
  ·cases m:Yx u with
   | false=>rfl
   | true=>have:=XI z m;simp [n1,n2,n4] at this
  ·cases m:Yx u with
   | false=>rfl
   | true=>have:=XI z m;simp [n3] at this
def Zan (C:Addr)(fs:List (Str×V)):Yv:=fun a h=>∃ dx,h a=some (.ins C dx fs)
instance {C:Addr} {fs:List (Str×V)}:Up (Zan C fs):=⟨fun ⟨dx,h⟩ s=>⟨dx,s _ _ h⟩⟩
structure ZP where
 ah:Nat
 st:Stp
 tb:Nat
 co:Nat
def UH (ss:List Stp):Yv:=fun l h=>∃ as:List Addr,h l=some (.lst (V.non::as.map V.ref))/\as.length=ss.length/\∀(i:Nat)(a:Addr)(s:Stp),as[i]?=some a->ss[i]?=some s->h a=some (.tup s.vs)
instance {ss:List Stp}:Up (UH ss):=⟨fun ⟨as,e,l,h⟩ s=>⟨as,s _ _ e,l,fun i a x e1 e2=>s _ _ (h i a x e1 e2)⟩⟩
abbrev Uk (st la ls lt lc:Addr):List (Str×V):=[("kept",.ref st),("aheads",.ref la),("steps",.ref ls),("tables",.ref lt),("costs",.ref lc)]
abbrev ZiQ (K:Qa)(CR CS:Addr)(pls:List ZP)(nds:List Nd)(tabs:List (Zn×V))(r st la ls lt lc:Addr):Rs :=
 [(r,Zan CR (Uk st la ls lt lc)),(st,Wb K CS nds tabs),(la,Ye (V.non::pls.map fun q=>V.int (q.ah:Int))),(ls,UH (pls.map (·.st))),(lt,Ye (V.int 0::pls.map fun q=>V.int (q.tb:Int))),(lc,Ye (V.int 0::pls.map fun q=>V.int (q.co:Int)))]
def XL (K:Qa)(CR CS:Addr)(pls:List ZP)(nds:List Nd)(tabs:List (Zn×V)):Yv:=fun r h=>∃ st la ls lt lc,Sep (ZiQ K CR CS pls nds tabs r st la ls lt lc) h
instance {K:Qa} {CR CS:Addr} {pls:List ZP} {nds:List Nd} {tabs:List (Zn×V)}:Up (XL K CR CS pls nds tabs):=⟨fun ⟨st,la,ls,lt,lc,S⟩ s=>⟨st,la,ls,lt,lc,S.mono s⟩⟩
theorem Sep.roaO {K:Qa}{CR CS r:Addr}{pls:List ZP}{nds:List Nd}{z:List (Zn×V)}{Δ:Rs}{H:Hp}(S:Sep ((r,XL K CR CS pls nds z)::Δ) H):∃ st B J lt I,Sep ((r,Zan CR (Uk st B J lt I))::(st,Wb K CS nds z)::(B,Ye (V.non::pls.map fun q=>V.int (q.ah:Int)))::(J,UH (pls.map (·.st)))::(lt,Ye (V.int 0::pls.map fun q=>V.int (q.tb:Int)))::(I,Ye (V.int 0::pls.map fun q=>V.int (q.co:Int)))::Δ) H:=by
 obtain ⟨h,l,⟨st,B,J,lt,I,G⟩,S⟩:=S
 exact ⟨st,B,J,lt,I,Sep.nest (a:=r) (Γ:=ZiQ K CR CS pls nds z r st B J lt I) l G S⟩
theorem Sep.roaC {K:Qa}{CR CS r st B J lt I:Addr}{pls:List ZP}{nds:List Nd}{z:List (Zn×V)}{Δ:Rs}{H:Hp}(S:Sep ((r,Zan CR (Uk st B J lt I))::(st,Wb K CS nds z)::(B,Ye (V.non::pls.map fun q=>V.int (q.ah:Int)))::(J,UH (pls.map (·.st)))::(lt,Ye (V.int 0::pls.map fun q=>V.int (q.tb:Int)))::(I,Ye (V.int 0::pls.map fun q=>V.int (q.co:Int)))::Δ) H):Sep ((r,XL K CR CS pls nds z)::Δ) H :=
 Sep.pack (Γ:=ZiQ K CR CS pls nds z r st B J lt I) S fun h G=>⟨st,B,J,lt,I,G⟩
theorem Sep.imm {Δ:Rs}{H:Hp}{a:Addr}{o:HO}(S:Sep Δ H)(e:H a=some o)(m:Yx o=false):Sep ((a,Pt o)::Δ) H:=by
 refine ⟨one a o,fun b u q=>?_,one_some.mpr ⟨rfl,rfl⟩,S.mono fun b u q=>cut_some.mpr ⟨q,fun v z=>?_⟩⟩
 ·obtain ⟨rfl,rfl⟩:=one_some.mp q;exact e
 ·obtain ⟨rfl,rfl⟩:=one_some.mp z;exact m
theorem Sep.updR {Δ G:Rs}{H:Hp}{R T:Yv}(S:Sep Δ H)(a:Addr)(o':HO)[P:Pull a Δ R G](m:∀ h,R a h->∃ o,h a=some o/\Yx o=true)
 (f:∀ h,R a h->Same h H->∀ h',h' a=some o'->(∀ b o,b≠a->h b=some o->h' b=some o)->(∀ b o,b≠a->H b=some o->Yx o=false->h' b=some o)->T a h'):Sep ((a,T)::G) (upd H a o'):=by
 obtain ⟨h,l,r,S⟩:=P.out S
 obtain ⟨o,ea,W⟩:=m h r
 refine ⟨fun b=>if b=a then some o' else match h b with | some u=>some u | none=>some_of H [] b,fun b u e=>?_,f h r l _ (if_pos rfl) (fun b u nb e=>?_) (fun b u nb e J=>?_),S.mono fun b u e=>?_⟩
 ·dsimp only at e
  by_cases B:b=a
  ·rw [if_pos B] at e;cases e;rw [B];exact Zh
  ·rw [if_neg B] at e
   rw [Zi B]
   cases q:h b with
   | some z=>rw [q] at e;cases e;exact l _ _ q
   | none=>rw [q] at e;exact Wf _ _ e
 ·rw [if_neg nb,e]
 ·rw [if_neg nb]
  cases q:h b with
  | some z=>have:=l _ _ q;rw [e] at this;cases this;rfl
  | none=>exact WO e J
 ·obtain ⟨e1,I⟩:=cut_some.mp e
  have B:b≠a:=fun z=>by have:=I o (by rw [z];exact ea);rw [W] at this;cases this
  refine cut_some.mpr ⟨by rw [Zi B];exact e1,fun v q=>?_⟩
  simp only [if_neg B] at q
  cases z:h b with
  | some x=>rw [z] at q;cases q;exact I _ z
  | none =>
   rw [z] at q
   cases mm:Yx v with
   | false=>rfl
   | true=>have:=XI q mm;cases this
theorem Sep.stepApp {Δ J:Rs}{H:Hp}{Z:List Stp}{s:Stp}{W:Addr}{as:List Addr}(S:Sep Δ H)(l:Addr)[P:Pull l Δ (UH Z) J](e:H l=some (.lst (V.non::as.map V.ref)))(es:H W=some (.tup s.vs)):Sep ((l,UH (Z++[s]))::J) (upd H l (.lst (V.non::as.map V.ref++[V.ref W]))):=by
 refine S.updR l _ (fun h ⟨as,e,_⟩=>⟨_,e,rfl⟩) fun h r l' h' e1 e2 e3=>?_
 obtain ⟨B,e4,hl,hs⟩:=r
 have e5:=l' _ _ e4
 rw [e] at e5
 have e6:as.map V.ref=B.map V.ref:=(Tu (HO.lst.inj (Qv e5))).2
 refine ⟨B++[W],?_,by rw [length_append,length_append,hl];rfl,fun i a x G I=>?_⟩
 ·rw [e1,map_append,e6];rfl
 ·have Y:W≠l:=fun z=>by rw [z,e] at es;cases es
  by_cases hi:i < B.length
  ·rw [getElem?_append_left hi] at G
   rw [getElem?_append_left (by omega)] at I
   have q3:=hs i a x G I
   exact e2 _ _ (fun z=>by rw [z,e4] at q3;cases q3) q3
  ·rw [getElem?_append_right (by omega)] at G I
   have h0:i - B.length=0:=by
    cases z:i - B.length with
    | zero=>rfl
    | succ j=>rw [z] at G;simp at G
   rw [h0] at G
   rw [show i - Z.length=0 by omega] at I
   cases (show some W=some a from G)
   cases (show some s=some x from I)
   exact e3 _ _ Y es rfl
def Stp.ap:Stp->(Str->Option V)->(Str->Option V)
 | .set x v,F=>fun y=>if y=x then some v else F y
 | .clr x,F=>fun y=>if y=x then none else F y
def envs (pls:List ZP):List (Str->Option V):=pls.foldl (fun es q=>es++[q.st.ap (es.getD q.ah fun _=>none)]) [fun _=>none]
theorem ZcJ (pls:List ZP)(q:ZP):envs (pls++[q])=envs pls++[q.st.ap ((envs pls).getD q.ah fun _=>none)]:=by
 unfold envs;rw [List.foldl_append];rfl
theorem ZkP {α:Type}{P:List α->Prop}(h0:P [])(hs:∀ l a,P l->P (l++[a])):∀ l,P l:=by
 have key:∀ n (l:List α),l.length=n->P l:=by
  intro n
  induction n with
  | zero=>intro l h;rw [Pi h];exact h0
  | succ n ih =>
   intro l h
   have hne:l≠[]:=fun z=>by rw [z] at h;cases h
   rw [<- List.dropLast_concat_getLast hne]
   exact hs _ _ (ih _ (by rw [List.length_dropLast];omega))
 exact fun l=>key _ l rfl
theorem Vf (pls:List ZP):(envs pls).length=pls.length+1:=by
 induction pls using ZkP with
 | h0=>rfl
 | hs l q ih=>rw [ZcJ,length_append,ih,length_append];rfl
theorem Sep.im {Δ:Rs}{H:Hp}{a:Addr}{R T:Yv}[U:Up R](S:Sep ((a,R)::Δ) H)(f:∀ h,R a h->Same h H->(∀ b o,H b=some o->Yx o=false->h b=some o)->T a h):Sep ((a,T)::Δ) H:=by
 obtain ⟨h,l,r,S⟩:=S
 have s1:Same h fun b=>match h b with | some o=>some o | none=>some_of H [] b:=fun b o e=>by simp only [e]
 have le:Same (fun b=>match h b with | some o=>some o | none=>some_of H [] b) H:=fun b o e=>by
  dsimp only at e
  cases q:h b with
  | some z=>rw [q] at e;cases e;exact l _ _ q
  | none=>rw [q] at e;exact Wf _ _ e
 refine ⟨_,le,f _ (U.up r s1) le fun b o e m=>?_,S.mono fun b o e=>?_⟩
 ·cases q:h b with
  | some z=>have:=l _ _ q;rw [e] at this;cases this;rfl
  | none=>exact WO e m
 ·obtain ⟨e1,B⟩:=cut_some.mp e
  refine cut_some.mpr ⟨e1,fun u q=>?_⟩
  try dsimp only at q
  cases z:h b with
  | some x=>rw [z] at q;cases q;exact B _ z
  | none =>
   rw [z] at q
   cases mm:Yx u with
   | false=>rfl
   | true=>have:=XI q mm;cases this
def PLs (ps:List (Str×V)):Yv:=fun l h=>∃ ts:List Addr,h l=some (.lst (ts.map V.ref))/\PairT h ts ps
instance {ps:List (Str×V)}:Up (PLs ps):=⟨fun ⟨ts,e,p⟩ s=>⟨ts,s _ _ e,p.tf s.tf⟩⟩
theorem Sep.pls {Δ:Rs}{H:Hp}{l:Addr}{ts:List Addr}{ps:List (Str×V)}(S:Sep ((l,Ye (ts.map V.ref))::Δ) H)(h:PairT H ts ps):Sep ((l,PLs ps)::Δ) H :=
 S.im fun g e _ im=>⟨ts,e,h.1,fun i a p e1 z=>im _ _ (h.2 i a p e1 z) rfl⟩
def but (H:Hp)(l:Addr):Hp:=fun b=>if b=l then none else H b
theorem Zmk {H:Hp}{l:Addr}:Same (but H l) H:=fun b o e=>by
 unfold but at e
 split at e
 ·cases e
 ·exact e
theorem ZaV {H:Hp}{l b:Addr}(h:b≠l):but H l b=H b:=by unfold but;rw [if_neg h]
theorem ZlS {H:Hp}{l:Addr}:but H l l=none:=by unfold but;rw [if_pos rfl]
end L2
namespace L2
open PySem PySem.Spec PyProof.Rows
def Itz (K:Qa)(l1 l2:Addr):It :=
 ⟨fun i H=>∃ xs ys x y,SqL K H l1 xs/\SqL K H l2 ys/\xs[i]?=some x/\ys[i]?=some y,
  fun i H v H'=>∃ t x y,H t=none/\(∀ xs,SqL K H l1 xs->xs[i]?=some x)/\(∀ ys,SqL K H l2 ys->ys[i]?=some y)/\v=.ref t/\H'=upd H t (.tup [x,y]),
  fun i H=>∃ xs ys,SqL K H l1 xs/\SqL K H l2 ys/\(xs.length<=i\/ys.length<=i)⟩
theorem ZiP {P:Qj}{w:Qr}{K:Qa}{elts:List Expr}{x1:Nat}{tp:Pos}{z TI TO Y W l1 l2:Addr}(D:ZipApart z TI TO Y W l1 l2)(hTl1:l1≠TI)(hTl2:l2≠TI) :
 Vo P w K (.Tuple elts x1 tp) (Itz K l1 l2) [z,TI,TO,Y,W] z (fun i h=>IsZip h z TI TO .none/\IsPair h TI (.ref Y) (.ref W)/\(∃ a b,IsPair h TO a b)/\h.IsListIter Y l1 i/\h.IsListIter W l2 i) where
 mem:=by simp
 obj:=fun i h st b G=>by
  obtain ⟨hz,B,⟨a,c,J⟩,⟨o1,ho1,c1,d1⟩,⟨o2,ho2,c2,d2⟩⟩:=st
  simp only [mem_cons,not_mem_nil,or_false] at G
  rcases G with q | q | q | q | q
  ·rw [q];exact ⟨_,hz,fun v z=>by cases z⟩
  ·rw [q];exact ⟨_,B,fun v z=>by cases z⟩
  ·rw [q];exact ⟨_,J,fun v z=>by cases z⟩
  ·rw [q];exact ⟨o1,ho1,fun v z=>by rw [d1] at z;cases z⟩
  ·rw [q];exact ⟨o2,ho2,fun v z=>by rw [d2] at z;cases z⟩
 keep:=fun i h h' st k=>by
  obtain ⟨hz,B,⟨a,c,J⟩,h1,h2⟩:=st
  exact ⟨k z (by simp) _ hz,k TI (by simp) _ B,⟨a,c,k TO (by simp) _ J⟩,h1.at fun o y=>k Y (by simp) o y,h2.at fun o y=>k W (by simp) o y⟩
 item:=by
  intro X hP hw hK hc i pins s σ H E I hf st hg
  subst hP hw hK
  obtain ⟨hz,B,⟨a,b,J⟩,h1,h2⟩:=st
  obtain ⟨xs,ys,x,y,hq1,hq2,hx,hy⟩:=hg
  obtain ⟨its1,rv1,p1,hz1⟩:=I.list hq1
  obtain ⟨its2,rv2,p2,hz2⟩:=I.list hq2
  obtain ⟨u1,hu1,ru1⟩:=rv1.get hx
  obtain ⟨u2,hu2,ru2⟩:=rv2.get hy
  refine wpAny_pyNext_zip_item D hz B J h1 h2 p1.isList p2.isList (by simpa using hu1) (by simpa using hu2) fun h' g1 g2 g3 g4 g5 g6 g7=>?_
  refine ⟨_,rfl,wpAny_letOwnedTupleGo_zip g1 fun Z g1' S=>?_⟩
  have hzl:z < s.heap.objs.size:=Qf hz
  have hTIl:TI < s.heap.objs.size:=Qf B
  have hTOl:TO < s.heap.objs.size:=Qf J
  have hi1l:Y < s.heap.objs.size:=by obtain ⟨o,ho,_⟩:=h1;exact Qf ho
  have hi2l:W < s.heap.objs.size:=by obtain ⟨o,ho,_⟩:=h2;exact Qf ho
  have g5':h'.get? s.heap.objs.size=some ({ cls:=.type "tuple",data:=.seq #[u1,u2] }:Obj):=g5
  generalize hO:({ cls:=.type "tuple",data:=.seq #[u1,u2] }:Obj)=O at g5'
  have I1:Inv X pins σ (upd H s.heap.objs.size (.tup [x,y])) { s with heap:=s.heap.push O,toks:=s.toks }:=by
   refine I.laid (t':=s.toks) (fun b o y=>Qc _ y) (Qg _) (show ObjOk X.prog X.w _ _ _ (.tup _) from ⟨by show 2<=Qh;decide,[u1,u2],.cons ru1 (.cons ru2 .nil),?_⟩)
   rw [<- hO];exact TH _ _
  have hfree:=I.hok.fresh (Qg s.heap.objs.size)
  have hf2:∀ b∈[z,TI,TO,Y,W],Xy X pins (upd H s.heap.objs.size (.tup [x,y])) b:=fun b G=>by
   obtain ⟨f0,f1⟩:=hf b G
   have hb':b≠s.heap.objs.size:=by
    simp only [mem_cons,not_mem_nil,or_false] at G
    rcases G with q | q | q | q | q<;>(rw [q];exact Qq (by assumption))
   exact ⟨by rw [Zi hb'];exact f0,f1⟩
  have I2:Inv X pins σ (upd H s.heap.objs.size (.tup [x,y])) { s with heap:=Z,toks:=s.toks }:=by
   refine I1.turned2 (t':=s.toks) (h':=Z) (fun b o G y=>?_) hf2
   have n1:b≠z:=fun q=>G (by simp [q])
   have n2:b≠TO:=fun q=>G (by simp [q])
   have n3:b≠Y:=fun q=>G (by simp [q])
   have n4:b≠W:=fun q=>G (by simp [q])
   rw [S.2 b n1]
   rcases Pj y with ⟨q1,q2⟩ | y
   ·rw [q1,q2];exact g5'
   ·exact g7 b o n1 n2 n3 n4 y
  refine ⟨.ref s.heap.objs.size,_,I2,rfl,⟨s.heap.objs.size,x,y,hfree,fun ys hy'=>by rw [I.list_inj hy' hq1];exact hx,fun ys' hy'=>by rw [I.list_inj hy' hq2];exact hy,rfl,rfl⟩,⟨g1',?_,⟨u1,u2,?_⟩,?_,?_⟩,fun b G=>(hf2 b G).1⟩
  ·show Z.get? TI=_
   rw [S.2 TI D.TIz];exact g7 TI _ D.TIz D.TITO D.TIi1 D.TIi2 B
  ·show Z.get? TO=_
   rw [S.2 TO D.TOz];exact g2
  ·exact g3.at fun o y=>by rw [S.2 Y D.i1z];exact y
  ·exact g4.at fun o y=>by rw [S.2 W D.i2z];exact y
 done:=by
  intro X hP hw hK hc i pins s σ H E I hf st hg
  subst hP hw hK
  obtain ⟨hz,B,⟨a,b,J⟩,h1,h2⟩:=st
  obtain ⟨xs,ys,hq1,hq2,hle⟩:=hg
  obtain ⟨its1,rv1,p1,hz1⟩:=I.list hq1
  obtain ⟨its2,rv2,p2,hz2⟩:=I.list hq2
  have l1:=rv1.length
  have l2:=rv2.length
  refine wpAny_pyNext_zip_end (I.ok.hd hc) D hz B J h1 h2 p1.isList p2.isList ?_ fun h' eb=>⟨rfl,I.turned2 (t':=s.toks) (fp:=[z,TI,TO,Y,W]) (fun b o G y=>eb b o (fun q=>G (by simp [q])) (fun q=>G (by simp [q])) (fun q=>G (by simp [q])) (fun q=>G (by simp [q])) y) hf⟩
  rcases hle with q | q
  ·exact .inl (Sm (by simp;omega))
  ·exact .inr (Sm (by simp;omega))
 self:=fun _ _ _ _ _ st h=>OI st.1 h
def iZip (K:Qa)(ta tb:TE):TI:=fun σ H R=>ta σ H fun v H1=>tb σ H1 fun u H2=>∃ a b xs ys,[v,u]=[V.ref a,V.ref b]/\H2 a=some (.lst xs)/\H2 b=some (.lst ys)/\R (Itz K a b) H2
section
variable {X:Cx}
theorem Zhv:Jp "zip"=some (.type "zip"):=by decide +kernel
theorem ZlL {l m:Expr}{ta tb:TE}{B:List Expr}{x1:Nat}{tp p pos:Pos}(hg:Gl X "zip")(hm:X.mg "zip"=none)(hl:PE X l ta)(hr:PE X m tb)
 (he:Qz [l,m] X.env=(false,eval l X.env)::Qz [m] X.env:=by rfl) (W:Qz [m] X.env=[(false,eval m X.env)]:=by rfl) (hpl:(GP pos (Qz [m] X.env)).any (·.1)=false:=by rfl):PI X (.Tuple B x1 tp) (.Call (.Name "zip" p) [l,m] [] pos) (iZip X.K ta tb):=by
 intro pins s σ H R I h
 have ha:PA X [l,m] (Xu ta (Xu tb Wr)):=Yu hl (Yu hr Za W) he
 refine QP (Ww I hg hm Zhv ?_)
 refine Gy (Zu (ha pos pins s σ H (fun vs H2=>∃ a b xs ys,vs=[V.ref a,V.ref b]/\H2 a=some (.lst xs)/\H2 b=some (.lst ys)/\R (Itz X.K a b) H2) I h) fun us s1 ⟨vs,H1,G,r1,a,b,xs,ys,e,ea,eb,q⟩=>?_) he hpl
 subst e
 obtain ⟨Z,Y,rfl,r2,r3⟩:∃ Z Y,us=[Z,Y]/\RelV (V.ref a) Z/\RelV (V.ref b) Y:=by
  cases r1 with
  | cons p t=>cases t with
   | cons p2 t2=>cases t2;exact ⟨_,_,rfl,p,p2⟩
 cases r2
 cases r3
 obtain ⟨z1,its1,n1,rv1,hl1,S⟩:=G.lstM ea
 obtain ⟨z2,its2,n2,rv2,hl2,J⟩:=G.lstM eb
 have ha1:a < s1.heap.objs.size:=Qf S
 have hb1:b < s1.heap.objs.size:=Qf J
 refine call_zip_2 ⟨_,S,rfl,n1,rfl⟩ ⟨_,J,rfl,n2,rfl⟩ fun h' g1 g2 g3 g4 g5 g6 g7=>OI g1 ?_
 refine ⟨s1.heap.objs.size+4,[s1.heap.objs.size+4,s1.heap.objs.size+2,s1.heap.objs.size+3,s1.heap.objs.size,s1.heap.objs.size+1],_,_,H1,rfl,G.kept (t':=s1.toks) g7,ZiP (l1:=a) (l2:=b) ⟨?_,?_,?_,?_,?_,?_,?_,?_,?_,?_,?_,?_,?_,?_,?_,?_,?_,?_⟩ ?_ ?_,⟨g1,g2,⟨_,_,g3⟩,g4,g5⟩,fun c hc=>?_,q⟩
 rotate_right
 ·simp only [mem_cons,not_mem_nil,or_false] at hc
  have z:∀ k,Xy X pins H1 (s1.heap.objs.size+k):=fun k=>G.fpOk (Jr _ k) (G.hok.fresh (Jr _ k))
  rcases hc with q | q | q | q | q
  ·rw [q];exact z 4
  ·rw [q];exact z 2
  ·rw [q];exact z 3
  ·rw [q];exact z 0
  ·rw [q];exact z 1
 all_goals
  first
   | exact Qq (by first | (apply QE (by assumption);omega) | (simp only [TX];decide) | (show _ < _+_;exact TY (by decide)))
   | exact GI (by first | (simp only [TX];decide) | exact TY (by decide))
end
mutual
inductive DatT (K:Qa)(H:Hp):V->Jy->Prop
 | non:DatT K H .non .none
 | int (i):DatT K H (.int i) (.int i)
 | str (x):DatT K H (.str x) (.str x)
 | tup {a xs ds}:SqT K H a xs->DatTs K H xs ds->DatT K H (.ref a) (.tuple ds)
inductive DatTs (K:Qa)(H:Hp):List V->List Jy->Prop
 | nil:DatTs K H [] []
 | cons {v d vs ds}:DatT K H v d->DatTs K H vs ds->DatTs K H (v::vs) (d::ds)
end
section
variable {X:Cx}{pins:List (Addr×Obj)}{σ:St}{H:Hp}{s:Qd}
mutual
theorem DatT.reads (I:Inv X pins σ H s):∀{v d}(u:Qb),DatT X.K H v d->RelV v u->d.hasDict=false/\∃ as,Reads s.heap u d as
 | _,_,u,.non,r=>by cases (show u=.none from r);exact ⟨rfl,_,.none⟩
 | _,_,u,.int i,r=>by obtain ⟨t,e⟩:=(show ∃ t,u=.int i t from r);subst e;exact ⟨rfl,_,.int i t⟩
 | _,_,u,.str x,r=>by obtain ⟨t,e⟩:=(show ∃ t,u=.str x t from r);subst e;exact ⟨rfl,_,.str x t⟩
 | _,_,u,.tup (a:=a) (xs:=xs) e q,r=>by
  cases (show u=.ref a from r)
  obtain ⟨z,B,⟨o,g,c,n,d⟩,_⟩:=I.tuple e
  obtain ⟨J,as,G⟩:=DatTs.reads I z q B
  exact ⟨by simpa [SS] using J,_,.tuple g c d (by simpa using G)⟩
theorem DatTs.reads (I:Inv X pins σ H s):∀{vs ds}(us:List Qb),DatTs X.K H vs ds->Vals vs us->JL ds=false/\∃ as,ReadsAll s.heap us ds as
 | _,_,_,.nil,.nil=>⟨rfl,_,.nil⟩
 | _,_,_,.cons r t,.cons rv tv=>by
  obtain ⟨B,as,G⟩:=DatT.reads I _ r rv
  obtain ⟨J,bs,z⟩:=DatTs.reads I _ t tv
  exact ⟨by simp [JL,B,J],_,.cons G z⟩
end
end
end L2
namespace L2
open PySem
end L2
namespace L2
open PySem PySem.W PySem.Spec PyProof.Rows
section
variable {X:Cx}
end
end L2
namespace L2
open PySem
def tCut (t u:TS):TS:=fun D σ H=>∃ I:St->Hp->Prop,t { D with nx:=I } σ H/\∀ σ' H',I σ' H'->u D σ' H'
theorem Zkc {X:Cx}{st:Stmt}{rest:List Stmt}{t u:TS}(h1:PS X st t)(h2:PSs X rest u):PSs X (st::rest) (tCut t u):=by
 intro pins s σ H D I h
 obtain ⟨J,h,g⟩:=h
 refine TD (Zu (h1 pins s σ H { D with nx:=J } I h) fun f s1 q=>?_)
 cases f with
 | next =>
  obtain ⟨z,H',B,q⟩:=q
  exact h2 pins s1 z H' D B (g _ _ q)
 | ret v=>exact q
 | brk=>exact q
 | cont=>exact q
end L2
namespace L2
open PySem PySem.Spec PyProof.Rows
theorem Vw {G B:TS}{D:YN}{σ:St}{H:Hp}(h:let z:YN:=D;let S:St:=σ;let I:St->Hp->Prop:=B z;G { z with nx:=I } S H):(Yp G B) D σ H:=h
theorem zs3 {I G B:TS}{D:YN}{σ:St}{H:Hp}(h:let z:YN:=D;let S:St:=σ;let J:St->Hp->Prop:=B z;let W:St->Hp->Prop:=G { z with nx:=J };I { z with nx:=W } S H):(Yp I (Yp G B)) D σ H:=h
theorem zs4 {J G B I:TS}{D:YN}{σ:St}{H:Hp}(h:let z:YN:=D;let S:St:=σ;let W:St->Hp->Prop:=I z;let Y:St->Hp->Prop:=B { z with nx:=W };let Z:St->Hp->Prop:=G { z with nx:=Y };J { z with nx:=Z } S H):(Yp J (Yp G (Yp B I))) D σ H:=h
theorem zs5 {W G B I J:TS}{D:YN}{σ:St}{H:Hp}(h:let z:YN:=D;let S:St:=σ;let Y:St->Hp->Prop:=J z;let Z:St->Hp->Prop:=I { z with nx:=Y };let N2:St->Hp->Prop:=B { z with nx:=Z };let N1:St->Hp->Prop:=G { z with nx:=N2 };W { z with nx:=N1 } S H):(Yp W (Yp G (Yp B (Yp I J)))) D σ H:=h
theorem zs6 {Y I G J W B:TS}{D:YN}{σ:St}{H:Hp}(h:let z:YN:=D;let S:St:=σ;let N5:St->Hp->Prop:=B z;let Z:St->Hp->Prop:=W { z with nx:=N5 };let N3:St->Hp->Prop:=J { z with nx:=Z };let N2:St->Hp->Prop:=G { z with nx:=N3 };let N1:St->Hp->Prop:=I { z with nx:=N2 };Y { z with nx:=N1 } S H):(Yp Y (Yp I (Yp G (Yp J (Yp W B))))) D σ H:=h
theorem zs8 {a1 W I Y Z G J B:TS}{D:YN}{σ:St}{H:Hp}(h:let z:YN:=D;let S:St:=σ;let N7:St->Hp->Prop:=B z;let N6:St->Hp->Prop:=J { z with nx:=N7 };let N5:St->Hp->Prop:=G { z with nx:=N6 };let N4:St->Hp->Prop:=Z { z with nx:=N5 };let N3:St->Hp->Prop:=Y { z with nx:=N4 };let N2:St->Hp->Prop:=I { z with nx:=N3 };let N1:St->Hp->Prop:=W { z with nx:=N2 };a1 { z with nx:=N1 } S H):(Yp a1 (Yp W (Yp I (Yp Y (Yp Z (Yp G (Yp J B))))))) D σ H:=h
theorem zs10 {Y W I a4 a5 a6 Z G J B:TS}{D:YN}{σ:St}{H:Hp}(h:let z:YN:=D;let S:St:=σ;let N9:St->Hp->Prop:=B z;let N8:St->Hp->Prop:=J { z with nx:=N9 };let N7:St->Hp->Prop:=G { z with nx:=N8 };let N6:St->Hp->Prop:=Z { z with nx:=N7 };let N5:St->Hp->Prop:=a6 { z with nx:=N6 };let N4:St->Hp->Prop:=a5 { z with nx:=N5 };let N3:St->Hp->Prop:=a4 { z with nx:=N4 };let N2:St->Hp->Prop:=I { z with nx:=N3 };let N1:St->Hp->Prop:=W { z with nx:=N2 };Y { z with nx:=N1 } S H):(Yp Y (Yp W (Yp I (Yp a4 (Yp a5 (Yp a6 (Yp Z (Yp G (Yp J B))))))))) D σ H:=h
end L2
namespace K23
open PySem L2
def top (i:Nat):Stmt:=Pk.main.body.getD i (.Pass ⟨0,0,0,0⟩)
abbrev s_alike:Stmt:=top 2
abbrev s_mark:Stmt:=top 3
abbrev s_digit:Stmt:=top 4
abbrev s_leaf_of:Stmt:=top 9
abbrev s_fork_of:Stmt:=top 10
abbrev s_parts_in:Stmt:=top 11
abbrev s_pairs_in:Stmt:=top 12
abbrev s_has_mark:Stmt:=top 13
abbrev s_differing:Stmt:=top 15
abbrev c_RoadError___init__:Stmt:=ZF (top 19) 0
abbrev c_Store___init__:Stmt:=ZF (top 38) 0
abbrev c_Store_empty:Stmt:=ZF (top 38) 1
abbrev c_Store_put:Stmt:=ZF (top 38) 2
abbrev c_Store_without:Stmt:=ZF (top 38) 3
abbrev c_Store_looked:Stmt:=ZF (top 38) 4
abbrev c_Store_pairs:Stmt:=ZF (top 38) 6
abbrev c_Store_way:Stmt:=ZF (top 38) 7
abbrev c_Store_made:Stmt:=ZF (top 38) 9
abbrev c_Store_check_table:Stmt:=ZF (top 38) 10
abbrev c_Store_pairs_below:Stmt:=ZF (top 38) 11
abbrev c_Store_keep:Stmt:=ZF (top 38) 12
abbrev c_Store_as_table:Stmt:=ZF (top 38) 13
abbrev c_Store_put_in:Stmt:=ZF (top 38) 14
abbrev c_Store_fork_parts:Stmt:=ZF (top 38) 15
abbrev c_Store_taken_from:Stmt:=ZF (top 38) 16
abbrev c_Roads___init__:Stmt:=ZF (top 40) 0
abbrev c_Roads_put:Stmt:=ZF (top 40) 1
abbrev c_Roads_clear:Stmt:=ZF (top 40) 2
abbrev c_Roads_places:Stmt:=ZF (top 40) 3
abbrev c_Roads_ahead:Stmt:=ZF (top 40) 4
abbrev c_Roads_step:Stmt:=ZF (top 40) 5
abbrev c_Roads_length:Stmt:=ZF (top 40) 6
abbrev c_Roads_road:Stmt:=ZF (top 40) 7
abbrev c_Roads_last:Stmt:=ZF (top 40) 8
abbrev c_Roads_walked:Stmt:=ZF (top 40) 9
abbrev c_Roads_store:Stmt:=ZF (top 40) 10
abbrev c_Roads_table:Stmt:=ZF (top 40) 11
abbrev c_Roads_looked:Stmt:=ZF (top 40) 12
abbrev c_Roads_all_at:Stmt:=ZF (top 40) 13
abbrev c_Roads_cost:Stmt:=ZF (top 40) 14
abbrev c_Roads_meeting:Stmt:=ZF (top 40) 15
abbrev c_Roads_between:Stmt:=ZF (top 40) 16
abbrev c_Roads_unlike:Stmt:=ZF (top 40) 17
abbrev c_Roads_check_place:Stmt:=ZF (top 40) 18
abbrev c_Roads_step_has:Stmt:=ZF (top 40) 19
abbrev c_Roads_go_on:Stmt:=ZF (top 40) 20
abbrev s_l_cell_at:Stmt:=top 42
abbrev s_l_box:Stmt:=top 43
abbrev s_l_take:Stmt:=top 44
abbrev s_l_names:Stmt:=top 45
abbrev s_l_value:Stmt:=top 46
abbrev s_l_pool:Stmt:=top 47
abbrev s_l_values:Stmt:=top 48
abbrev s_l_step:Stmt:=top 49
abbrev s_l_from:Stmt:=top 50
abbrev s_l_grown:Stmt:=top 51
abbrev s_l_refused:Stmt:=top 55
abbrev s_l_others:Stmt:=top 56
abbrev s_l_stand:Stmt:=top 57
abbrev s_l_right:Stmt:=top 58
abbrev s_law:Stmt:=top 59
section
variable {P:Qj}{w:Qr}{K:Qa}{mg:Str->Option Qb}{base:Heap}
theorem scC:Zo ["_law_script","_law_k"] ["_law_script","_law_k"] (Zj s_l_cell_at):=⟨rfl,rfl,rfl,by decide +kernel,rfl,by decide +kernel,by decide +kernel⟩
theorem ZjM {f:Addr}{fd:Qi}(F:Fun K "_law_cell_at" "_law_cell_at" s_l_cell_at f fd)(T:ZX mg):FnOk P w K mg base ZH 1 f fd ["_law_script","_law_k"] (Zhh K):=by
 refine F.ok scC (fun vs H Q E h=>?_) (fun Y A outer s H vs Q E Z h=>?_)
 ·obtain ⟨a,B,k,rfl,_⟩:=h;rfl
 obtain ⟨a,B,k,rfl,I,h0,q⟩:=h
 refine ⟨_,Zd (ZL (ZE VM (pv 1) (Zv Zy rfl T.len QB (Yu (pv 0) Za)) (ZB _)) (Zf (Zl (Zr Zx (pv 0) (pv 1) (fun _ _=>rfl)))) ZV)
  (Zf (Zl Ze)),?_⟩
 refine ⟨_,rfl,_,rfl,a,_,rfl,.inl I,_,_,rfl,rfl,_,rfl,?_⟩
 refine Wj (fun c=>?_) (fun c=>?_)
 ·have W:k < (((B.map V.int).length:Nat):Int):=of_decide_eq_true c
  rw [length_map] at W
  have S:k.toNat < B.length:=by omega
  have J:k=((k.toNat:Nat):Int):=by omega
  have G:YK (B.map V.int) k=some (.int B[k.toNat]):=by
   have z:YK (B.map V.int) ((k.toNat:Nat):Int)=some (.int B[k.toNat]):=ZJ (by rw [getElem?_map,getElem?_eq_getElem S];rfl)
   rwa [<- J] at z
  exact ⟨_,rfl,_,rfl,a,_,_,_,rfl,rfl,I,G,q _⟩
 ·exact q 0
theorem scB:Zo ["_law_script","_law_k","_law_cell"] ["_law_script","_law_k"] (Zj s_l_box):=⟨rfl,rfl,rfl,by decide +kernel,rfl,by decide +kernel,by decide +kernel⟩
theorem Zme {f:Addr}{fd:Qi}(F:Fun K "_law_box" "_law_box" s_l_box f fd)(T:ZX mg)(D:Def P w K mg base 1 "_law_cell_at" ["_law_script","_law_k"] (Zhh K)):FnOk P w K mg base ZH 2 f fd ["_law_script","_law_k"] (Zjo K):=by
 refine F.ok scB (fun vs H Q E h=>?_) (fun S A outer s H vs Q E G h=>?_)
 ·obtain ⟨a,B,k,rfl,_⟩:=h;rfl
 obtain ⟨a,B,k,rfl,I,J,h1,q⟩:=h
 refine ⟨_,Zd (Zt (i:=2) scB.nd rfl (Qy rfl) (ZD D G (Yu (pv 0) (Yu (pv 1) Za))))
  (Zf (Zl (Yg (Yu (Zs WC (Zv Zdb rfl T.abs (by decide +kernel) (Yu (pv 2) Za)) (YB VC rfl T.int (by decide +kernel) (Yu (Xa ZjA (Zv Zdb rfl T.abs (by decide +kernel) (Yu (pv 2) Za)) (Zs Vq Ze Ze) (ZB _)) Za)))
   (Yu (Zs Yq (Zs Yq (Zs XA (pv 2) Ze) (Zs WC Ze (pv 1))) Ze) (Yu Ze Za)))))),?_⟩
 refine ⟨_,rfl,_,rfl,a,B,k,rfl,I,J,fun r=>?_⟩
 refine ⟨_,rfl,_,rfl,⟨_,rfl,_,rfl,_,_,rfl,rfl,⟨by decide,by decide,by decide⟩,_,_,rfl,rfl,.inr ⟨_,rfl,?_⟩⟩⟩
 generalize W:decide ((10:Int) ^ (Int.toNat 18)<=(if r < 0 then -r else r))=z
 refine ⟨_,_,rfl,rfl,.inr (by cases z<;>exact ⟨by decide,by decide⟩),_,rfl,_,_,rfl,rfl,(by show (0:Int) < _;decide),_,rfl,_,_,rfl,rfl,.inl ⟨by decide,by decide⟩,_,_,rfl,rfl,_,_,rfl,rfl,(by show 3<=Qh;decide),fun p hp=>?_⟩
 refine q p _ hp ⟨_,_,0,Zh,?_,by decide,by decide⟩ (Zm hp _)
 cases z
 ·simp
 ·simp only [if_true,Int.mul_one];split<;>omega
theorem scT:Zo ["_law_box_here","_law_many","_law_found","_law_once","_law_twice"] ["_law_box_here","_law_many"] (Zj s_l_take):=⟨rfl,rfl,rfl,by decide +kernel,rfl,by decide +kernel,by decide +kernel⟩
theorem ZjG {f:Addr}{fd:Qi}(F:Fun K "_law_take" "_law_take" s_l_take f fd):FnOk P w K mg base ZH 1 f fd ["_law_box_here","_law_many"] (ZaC 4611686018427387904):=by
 refine F.ok scT (fun vs H Q E h=>?_) (fun cdv A outer s H vs Q E hr h=>?_)
 · obtain ⟨p,n,m,rfl,_⟩:=h;rfl
 obtain ⟨p,n,m,rfl,⟨a,b,c,hp,J,Y,W⟩,hn,G,I,q⟩:=h
 refine ⟨_,Zd (ZL (ZE ZiV (Zr Zx (pv 0) Ze (fun _ _=>rfl)) Ze (ZB _))
     (Zd (Zt (i:=2) scT.nd rfl (Qy rfl) (Zs XA (Zr Zx (pv 0) Ze (fun _ _=>rfl)) (pv 1)))
       (Zd (WF (Zs ZiF (Zr Zx (pv 0) Ze (fun _ _=>rfl)) (pv 1)) (Zbh (pv 0) Ze US)) (Zf (Zl (pv 2))))) ZV)
   (Zd (WF (Zs Yq (Zr Zx (pv 0) Ze (fun _ _=>rfl)) Ze) (Zbh (pv 0) Ze US))
   (Zd (Zt (i:=3) scT.nd rfl (Qy rfl) (Zs XA (Zs WC (Zs Yq (Zr Zx (pv 0) Ze (fun _ _=>rfl)) (Zs WC Ze (Zr Zx (pv 0) Ze (fun _ _=>rfl)))) (Zs Yq Ze (Zr Zx (pv 0) Ze (fun _ _=>rfl)))) Ze))
   (Zd (Zt (i:=4) scT.nd rfl (Qy rfl) (Zs XA (Zs WC (Zs Yq (pv 3) (Zr Zx (pv 0) Ze (fun _ _=>rfl))) (Zs Yq (Zs XA (pv 3) Ze) Ze)) Ze))
   (Zf (Zl (Zs XA (Zs Zeo (Zs XA (Zs Yq (Zs WC (pv 4) Ze) (pv 3)) Ze) Ze) (pv 1))))))),?_⟩
 refine ⟨_,rfl,p,_,_,_,rfl,rfl,SqL.of hp,rfl,_,_,rfl,rfl,_,rfl,?_⟩
 refine Wj (fun S=>?_) (fun S=>?_)
 · have h0:0 < a:=of_decide_eq_true S
   refine ⟨_,rfl,p,_,_,_,rfl,rfl,SqL.of hp,rfl,_,rfl,_,_,rfl,rfl,G,?_⟩
   refine ⟨_,rfl,p,_,_,_,rfl,rfl,SqL.of hp,rfl,_,rfl,_,_,rfl,rfl,⟨G,by have h4:m < 4611686018427387904:=I;omega⟩,?_⟩
   refine ⟨_,rfl,p,_,_,_,rfl,rfl,hp,rfl,?_⟩
   refine ⟨_,rfl,?_⟩
   exact q _ _ (Gw _ (by omega)) (Gp _ G) ⟨a / m,b,c,Zh,Int.ediv_nonneg J (by omega),Y,by omega⟩ (Kp.upd _ _ _)
 · refine ⟨_,rfl,p,_,_,_,rfl,rfl,SqL.of hp,rfl,_,_,rfl,rfl,?_⟩
   refine ⟨_,rfl,p,_,_,_,rfl,rfl,hp,rfl,?_⟩
   have B:upd H p (.lst [.int a,.int b,.int (c+1)]) p=some (.lst [.int a,.int b,.int (c+1)]):=Zh
   refine ⟨_,rfl,p,_,_,_,rfl,rfl,SqL.of B,rfl,_,rfl,p,_,_,_,rfl,rfl,SqL.of B,rfl,_,_,rfl,rfl,.inl ⟨by decide,by decide⟩,_,_,rfl,rfl,_,rfl,p,_,_,_,rfl,rfl,SqL.of B,rfl,_,_,rfl,rfl,_,_,rfl,rfl,.inr ⟨by omega,by omega⟩,_,_,rfl,rfl,(by show (0:Int) < _;decide),?_⟩
   generalize hO:((b+48271 * (c+1)) * (39373+(c+1))) % 2147483647=z
   have Z:0<=z:=by rw [<- hO];exact Gw _ (by decide)
   refine ⟨_,rfl,_,rfl,p,_,_,_,rfl,rfl,SqL.of B,rfl,_,_,rfl,rfl,_,rfl,_,_,rfl,rfl,(by show (0:Int) < _;decide),_,_,rfl,rfl,_,_,rfl,rfl,.inr ?_,_,_,rfl,rfl,(by show (0:Int) < _;decide),?_⟩
   · have:=Gw z (show (40009:Int)≠0 by decide)
     have:=Gp z (show (0:Int) < 40009 by decide)
     exact ⟨by omega,by omega⟩
   generalize hW:((z+(c+1)) * (z % 40009+7)) % 2147483629=twice
   refine ⟨_,rfl,_,_,rfl,rfl,.inr ⟨by decide,by decide⟩,_,rfl,_,_,rfl,rfl,_,_,rfl,rfl,(by show (0:Int) < _;decide),_,_,rfl,rfl,⟨by decide,by decide⟩,_,rfl,_,_,rfl,rfl,G,?_⟩
   exact q _ _ (Gw _ (by omega)) (Gp _ G) ⟨a,b,c+1,B,J,by omega,by omega⟩ (Kp.upd _ _ _)
end
structure Txt (K:Qa)(mg:Str->Option Qb):Prop extends ZX mg where
 base:∃ t,mg "BASE"=some (.int 4 t)
 zero:∃ t,mg "BARE_NUMBER"=some (.int 0 t)
 bare:∃ a,mg "BARE"=some (.ref a)/\∀ H,SqT K H a [.str "bare"]
 figs:∃ a,mg "FIGURES"=some (.ref a)/\∀ H,SqT K H a [.int 0,.int 1,.int 2,.int 3]
section
variable {P:Qj}{w:Qr}{K:Qa}{mg:Str->Option Qb}{base:Heap}
def Wk (l:List Nat):Nat->Int
 | 0=>0
 | i+1=>Wk l i+((i:Int)+1) * (((l.getD i 0:Nat):Int) - 97+1)
def WA:Sp:=fun vs H Q _=>∃ x:Str,vs=[.str x]/\x.length<=1000/\∀ H',Same H H'->Q (.int (Wk x.cps.toList x.length)) H'
def Wd:Sp:=fun vs H Q _=>∃(n:Int)(k:Nat),vs=[.int n,.int k]/\0<=n/\k<=1000/\Q (.int (n / 4 ^ k % 4)) H
theorem oa:(QI "a").cps.getD 0 0=97:=by decide +kernel
theorem scM:Zo ["name","total","place","letter"] ["name"] (Zj s_mark):=⟨rfl,rfl,rfl,by decide +kernel,rfl,by decide +kernel,by decide +kernel⟩
theorem Zkw {f:Addr}{fd:Qi}(F:Fun K "mark" "mark" s_mark f fd)(T:Txt K mg):FnOk P w K mg base ZH 1 f fd ["name"] WA:=by
 refine F.ok scM (fun vs H Q E h=>?_) (fun S A outer s H vs Q E Z h=>?_)
 ·obtain ⟨x,rfl,_⟩:=h;rfl
 obtain ⟨x,rfl,W,q⟩:=h
 refine' ⟨?t,?h,?r⟩
 case h =>
  conv=>arg 2;whnf
  with_reducible refine' Zd ?a1 (Zd ?a2 (Zf ?a3))
  case a1=>exact Zt (i:=1) scM.nd rfl (Qy rfl) Ze
  case a2=>exact Wy Gb rfl (ZiD rfl T.enumerate (pv 0)) (WZ rfl (Yt (Ya (i:=2) scM.nd rfl (Qy rfl)) (Yt (Ya (i:=3) scM.nd rfl (Qy rfl)) Wh))) (Zf (Zmb (i:=1) scM.nd rfl (Qy rfl) (Zs WC (pv 2) (Zs Yq (Zs Ys (Zv Zdm rfl T.ord (by decide +kernel) (Zb (pv 3) Za)) (Zv Zdm rfl T.ord (by decide +kernel) (Zb ZK Za))) Ze)) Zlw))
  case a3=>exact Zl (pv 1)
 refine ⟨_,rfl,x,rfl,?_⟩
 refine Zia (fun i σ H'=>∃ z G,σ=[some (.str x),some (.int (Wk x.cps.toList i)),z,G]/\Same H H'/\i<=x.cps.size) ⟨_,_,rfl,Same.refl H,QF _⟩ ?_ ?_
 ·rintro i c t σ H1 I J ⟨z,G,rfl,s1,hi⟩
  have B:i < x.cps.size:=(QV.mp I).1
  have Y:x.cps.size<=1000:=W
  refine ⟨t,_,rfl,SqT.of Zh,rfl,_,_,rfl,_,_,rfl,rfl,?_⟩
  refine ⟨_,rfl,_,rfl,_,rfl,_,rfl,rfl,_,rfl,rfl,_,_,rfl,rfl,_,_,rfl,rfl,_,_,rfl,rfl,.inl ⟨by omega,by omega⟩,_,_,rfl,rfl,?_⟩
  have e:Wk x.cps.toList (i+1)=Wk x.cps.toList i+((i:Int)+1) * ((((⟨#[c]⟩:Str).cps.getD 0 0:Nat):Int) - (((QI "a").cps.getD 0 0:Nat):Int)+1):=by
   rw [oa]
   show Wk x.cps.toList i+((i:Int)+1) * (((x.cps.toList.getD i 0:Nat):Int) - 97+1)=Wk x.cps.toList i+((i:Int)+1) * ((c:Int) - 97+1)
   have e1:x.cps.toList.getD i 0=c:=by rw [getD_eq_getElem?_getD,SE,I];rfl
   rw [e1]
  exact ⟨some (.int ((i:Int)+1)),some (.str ⟨#[c]⟩),by rw [e];rfl,s1.trans (Zm J _),B⟩
 ·rintro σ H1 ⟨z,G,rfl,s1,_⟩
  exact ⟨_,rfl,q H1 s1⟩
theorem scDg:Zo ["number","level","below"] ["number","level"] (Zj s_digit):=⟨rfl,rfl,rfl,by decide +kernel,rfl,by decide +kernel,by decide +kernel⟩
theorem ZhY {f:Addr}{fd:Qi}(F:Fun K "digit" "digit" s_digit f fd)(T:Txt K mg):FnOk P w K mg base ZH 1 f fd ["number","level"] Wd:=by
 refine F.ok scDg (fun vs H Q E h=>?_) (fun G A outer s H vs Q E I h=>?_)
 ·obtain ⟨n,k,rfl,_⟩:=h;rfl
 obtain ⟨n,k,rfl,S,J,q⟩:=h
 obtain ⟨tb,z⟩:=T.base
 refine' ⟨?t,?h,?r⟩
 case h =>
  conv=>arg 2;whnf
  with_reducible refine' Zd ?a1 (Zf ?a2)
  case a1=>exact Wy Gb rfl (YS rfl T.range (Zb (pv 1) Za)) (Ya (i:=2) scDg.nd rfl (Qy rfl)) (Zf (Zt (i:=0) scDg.nd rfl (Qy rfl) (Zs Zeo (pv 0) (ZT rfl z (v:=.int 4) ⟨_,rfl⟩))))
  case a2=>exact Zl (Zs XA (pv 0) (ZT rfl z (v:=.int 4) ⟨_,rfl⟩))
 refine ⟨_,rfl,k,rfl,by omega,by omega,?_⟩
 have B:(k:Int).toNat=k:=by omega
 rw [B]
 refine Uq (fun i σ H'=>∃ y,σ=[some (.int (n / 4 ^ i)),some (.int k),y]/\H'=H) ⟨_,by rw [Int.pow_zero,Ol];rfl,rfl⟩ ?_ ?_
 ·rintro i σ H1 hi ⟨y,rfl,rfl⟩
  have e:n / 4 ^ (i+1)=n / 4 ^ i / 4:=by rw [Int.pow_succ,<- Int.ediv_ediv_of_nonneg (Int.pow_nonneg (by decide))]
  exact ⟨_,rfl,_,_,rfl,rfl,⟨by decide,by decide⟩,some (.int (0+(i:Int))),by rw [e];rfl,rfl⟩
 ·rintro σ H1 ⟨y,rfl,rfl⟩
  exact ⟨_,rfl,_,_,rfl,rfl,(by show (0:Int) < 4;decide),q⟩
theorem nbf:decide (V.str (QI "bare")=V.str (QI "fork"))=false:=by decide +kernel
theorem nlf:decide (V.str (QI "leaf")=V.str (QI "fork"))=false:=by decide +kernel
theorem nbl:decide (V.str (QI "bare")=V.str (QI "leaf"))=false:=by decide +kernel
theorem nfl:decide (V.str (QI "fork")=V.str (QI "leaf"))=false:=by decide +kernel
theorem scPi:Zo ["node"] ["node"] (Zj s_parts_in):=⟨rfl,rfl,rfl,by decide +kernel,rfl,by decide +kernel,by decide +kernel⟩
theorem Zhw {f:Addr}{fd:Qi}(F:Fun K "parts_in" "parts_in" s_parts_in f fd):FnOk P w K mg base ZH 1 f fd ["node"] (Ws K):=by
 refine F.ok scPi (fun vs H Q E h=>?_) (fun I A outer s H vs Q E J h=>?_)
 ·obtain ⟨a,n,rfl,_⟩:=h;rfl
 obtain ⟨a,n,rfl,z,q⟩:=h
 refine ⟨_,Zf (Zl (XJ (ZE ZU (Zr Yd (pv 0) Ze (fun _ _=>rfl)) ZK (ZB _)) (Zr Yd (pv 0) Ze (fun _ _=>rfl)) Zes)),?_⟩
 cases n with
 | bare =>
  refine ⟨_,rfl,a,_,_,_,rfl,rfl,z,rfl,rfl,_,rfl,?_⟩
  rw [nbf]
  exact Yh fun p o hp G=>q p _ (Zm hp _) (.inl (.inr ⟨o,Zh⟩))
 | leaf m ps =>
  obtain ⟨t,e,_⟩:=z
  refine ⟨_,rfl,a,_,_,_,rfl,rfl,e,rfl,rfl,_,rfl,?_⟩
  rw [nlf]
  exact Yh fun p o hp G=>q p _ (Zm hp _) (.inl (.inr ⟨o,Zh⟩))
 | fork qs =>
  obtain ⟨t,e,B,_⟩:=z
  refine ⟨_,rfl,a,_,_,_,rfl,rfl,e,rfl,rfl,_,rfl,?_⟩
  rw [decide_eq_true rfl]
  exact Yo ⟨_,rfl,a,_,_,_,rfl,rfl,e,rfl,q t H (Same.refl H) B⟩
theorem scPr:Zo ["node"] ["node"] (Zj s_pairs_in):=⟨rfl,rfl,rfl,by decide +kernel,rfl,by decide +kernel,by decide +kernel⟩
theorem ZiG {f:Addr}{fd:Qi}(F:Fun K "pairs_in" "pairs_in" s_pairs_in f fd):FnOk P w K mg base ZH 1 f fd ["node"] (Xp K):=by
 refine F.ok scPr (fun vs H Q E h=>?_) (fun I A outer s H vs Q E J h=>?_)
 ·obtain ⟨a,n,rfl,_⟩:=h;rfl
 obtain ⟨a,n,rfl,B,q⟩:=h
 refine ⟨_,Zf (Zl (XJ (ZE ZU (Zr Yd (pv 0) Ze (fun _ _=>rfl)) ZK (ZB _)) (Zr Yd (pv 0) Ze (fun _ _=>rfl)) Zes)),?_⟩
 have nil:∀ p o,H p=none->o.dict=none->PairsAt (upd H p (.frz o (.tup []))) p []:=fun p o hp z=>⟨o,[],Zh,z,rfl,fun i a p e=>by simp at e⟩
 cases n with
 | bare =>
  refine ⟨_,rfl,a,_,_,_,rfl,rfl,B,rfl,rfl,_,rfl,?_⟩
  rw [nbl]
  exact Yh fun p o hp z=>q p _ (Zm hp _) (nil p o hp z)
 | fork qs =>
  obtain ⟨t,e,_⟩:=B
  refine ⟨_,rfl,a,_,_,_,rfl,rfl,e,rfl,rfl,_,rfl,?_⟩
  rw [nfl]
  exact Yh fun p o hp z=>q p _ (Zm hp _) (nil p o hp z)
 | leaf m ps =>
  obtain ⟨t,e,G⟩:=B
  refine ⟨_,rfl,a,_,_,_,rfl,rfl,e,rfl,rfl,_,rfl,?_⟩
  rw [decide_eq_true rfl]
  exact Yo ⟨_,rfl,a,_,_,_,rfl,rfl,e,rfl,q t H (Same.refl H) G⟩
theorem scHm:Zo ["node","number"] ["node","number"] (Zj s_has_mark):=⟨rfl,rfl,rfl,by decide +kernel,rfl,by decide +kernel,by decide +kernel⟩
theorem ZkG {f:Addr}{fd:Qi}(F:Fun K "has_mark" "has_mark" s_has_mark f fd):FnOk P w K mg base ZH 1 f fd ["node","number"] (Vp K):=by
 refine F.ok scHm (fun vs H Q E h=>?_) (fun G A outer s H vs Q E J h=>?_)
 ·obtain ⟨a,n,m,rfl,_⟩:=h;rfl
 obtain ⟨a,n,m,rfl,B,q⟩:=h
 refine ⟨_,Zf (Zl (Uy (Xa ZU (Zr Yd (pv 0) Ze (fun _ _=>rfl)) ZK (ZB _)) (Zbc (Xa ZU (Zr Yd (pv 0) Ze (fun _ _=>rfl)) (pv 1) (ZB _))))),?_⟩
 cases n with
 | bare =>
  refine ⟨_,rfl,a,_,_,_,rfl,rfl,B,rfl,rfl,_,rfl,?_⟩
  rw [nbl]
  exact Yh q
 | fork qs =>
  obtain ⟨t,e,_⟩:=B
  refine ⟨_,rfl,a,_,_,_,rfl,rfl,e,rfl,rfl,_,rfl,?_⟩
  rw [nfl]
  exact Yh q
 | leaf m' ps =>
  obtain ⟨t,e,I⟩:=B
  refine ⟨_,rfl,a,_,_,_,rfl,rfl,e,rfl,rfl,_,rfl,?_⟩
  rw [decide_eq_true rfl]
  refine Yo ⟨_,rfl,a,_,_,_,rfl,rfl,e,rfl,_,rfl,rfl,?_⟩
  have:decide (V.int m'=V.int m)=decide (m'=m):=by
   by_cases z:m'=m
   ·subst z;rw [decide_eq_true rfl,decide_eq_true rfl]
   ·rw [decide_eq_false z,decide_eq_false (fun y=>z (by cases y;rfl))]
  rw [this]
  exact q
theorem scFo:Zo ["parts"] ["parts"] (Zj s_fork_of):=⟨rfl,rfl,rfl,by decide +kernel,rfl,by decide +kernel,by decide +kernel⟩
theorem Zhe {f:Addr}{fd:Qi}(F:Fun K "fork_of" "fork_of" s_fork_of f fd)(T:Txt K mg):FnOk P w K mg base ZH 1 f fd ["parts"] (WQ K):=by
 refine F.ok scFo (fun vs H Q E h=>?_) (fun J A outer s H vs Q E S h=>?_)
 ·obtain ⟨l,qs,rfl,_⟩:=h;rfl
 obtain ⟨l,qs,rfl,G,B,q⟩:=h
 refine ⟨_,Zf (Zl (Yw (Zb ZK (Zb (YB Zcd rfl T.tuple (by decide +kernel) (Zb (pv 0) Za)) Za)))),?_⟩
 refine ⟨_,rfl,l,_,rfl,.inl ⟨SqL.of G,fun t I=>⟨(by show 2<=Qh;decide),fun a z=>?_⟩⟩⟩
 exact q a _ ((Zm I _).trans (Zm z _)) ⟨t,SqT.of Zh,SqT.of (Zm z _ _ _ Zh),B⟩
def pvl (H:Hp)(a:Addr):V:=match H a with
 | some (.tup [_,v])=>v
 | _=>.non
def XR (ps:List (Str×V)):Prop:=ps.Pairwise fun p q=>¬ (q.1.cps.toList < p.1.cps.toList)
theorem ZgL {H:Hp}{ts I:List Addr}{ps:List (Str×V)}(h:PairT H ts ps)(o:ZcD (ps.map (·.1)) ts I):∃ G,G.Perm ps/\XR G/\PairT H I G:=by
 obtain ⟨zs,hp,e,S⟩:=o
 have val:∀ (i:Nat) (a:Addr) (p:Str×V),ts[i]?=some a->ps[i]?=some p->pvl H a=p.2:=fun i a p e1 B=>by unfold pvl;rw [h.2 i a p e1 B]
 have W:((ps.map (·.1)).zip ts).map (fun z=>(z.1,pvl H z.2))=ps:=by
  apply Oq
  intro i
  rw [getElem?_map]
  cases B:ps[i]? with
  | none =>
   have:((ps.map (·.1)).zip ts)[i]?=none:=by
    rw [Ta] at B ⊢
    rw [Px,length_map];omega
   rw [this];rfl
  | some p =>
   have hi:i < ps.length:=(Qn.mp B).1
   obtain ⟨a,ea⟩:∃ a,ts[i]?=some a:=⟨_,getElem?_eq_getElem (by rw [h.1];exact hi)⟩
   have:((ps.map (·.1)).zip ts)[i]?=some (p.1,a):=by
    rw [getElem?_zip_eq_some]
    exact ⟨by rw [getElem?_map,B];rfl,ea⟩
   rw [this]
   show some (p.1,pvl H a)=some p
   rw [val i a p ea B]
 refine ⟨zs.map fun z=>(z.1,pvl H z.2),?_,?_,?_⟩
 ·have:=hp.map fun z:Str×Addr=>(z.1,pvl H z.2)
  rwa [W] at this
 ·unfold XR;rw [pairwise_map];exact S
 ·refine ⟨by rw [e,length_map,length_map],fun i a p e1 B=>?_⟩
  rw [e,getElem?_map] at e1
  rw [getElem?_map] at B
  cases ez:zs[i]? with
  | none=>rw [ez] at e1;cases e1
  | some z =>
   rw [ez] at e1 B
   cases (show some z.2=some a from e1)
   cases (show some (z.1,pvl H z.2)=some p from B)
   have Y:=hp.mem_iff.mp (mem_of_getElem? ez)
   obtain ⟨j,hj⟩:=Jg.mp Y
   rw [getElem?_zip_eq_some] at hj
   obtain ⟨h1,h2⟩:=hj
   rw [getElem?_map] at h1
   cases e3:ps[j]? with
   | none=>rw [e3] at h1;cases h1
   | some pj =>
    rw [e3] at h1
    have J:pj.1=z.1:=by simpa using h1
    have:=h.2 j z.2 pj h2 e3
    rw [this,val j z.2 pj h2 e3,J]
def Zz (x:Str):Int:=Wk x.cps.toList x.length
def Xx:Str:=(("leaf_of":Str)++".<locals>.")++"<lambda>"
def Vk (K:Qa)(Pl:Addr)(lpos:Pos):Sp:=fun vs H Q _=>∃(l:Addr)(ts:List Addr)(ps:List (Str×V)),vs=[.ref l]/\H l=some (.lst (ts.map V.ref))/\PairT H ts ps/\ps≠[]/\ps.length < 64/\(∀ p∈ps,p.1.length<=1000)/\LamAt H Pl lpos Xx /\
 ∀ (a:Addr) (H':Hp) (p1:Str×V) (pr:List (Str×V)),Grown Pl H H'->LamAt H' Pl lpos Xx->(p1::pr).Perm ps->XR (p1::pr)->NodeAt K H' a (.leaf (Zz p1.1) (p1::pr))->Q (.ref a) H'
theorem Grown.trans' {Pl:Addr}{H H1 H2:Hp}(a:Grown Pl H H1)(b:Same H1 H2):Grown Pl H H2:=fun x o n h=>b _ _ (a x o n h)
theorem LamAt.same {H H':Hp}{Pl:Addr}{lpos:Pos}{q:Str}(h:LamAt H Pl lpos q)(s:Same H H'):LamAt H' Pl lpos q:=by
 rcases h with h | ⟨c,h,h2⟩
 ·exact .inl (s _ _ h)
 ·exact .inr ⟨c,s _ _ h,s _ _ h2⟩
theorem scLf:Zo ["pairs","rising","first_name"] ["pairs"] (Zj s_leaf_of):=⟨rfl,rfl,rfl,by decide +kernel,rfl,by decide +kernel,by decide +kernel⟩
def Zln:Stmt->Pos
 | .Assign _ (.Call _ _ [⟨_,.Lambda _ _ _ p,_⟩] _) _=>p
 | _=>⟨0,0,0,0⟩
def YH:Pos:=Zln ((Xj s_leaf_of).getD 0 (.Pass ⟨0,0,0,0⟩))
theorem Zky {f c Pl:Addr}{fd:Qi}(F:FunC K "leaf_of" "leaf_of" s_leaf_of f fd c Pl)(T:Txt K mg)(hBm:Ux base mg)(DM:Def P w K mg base 1 "mark" ["name"] WA):FnOk P w K mg base ZH 2 f fd ["pairs"] (Vk K Pl YH):=by
 refine F.ok scLf (fun vs H Q E h=>?_) (fun A outer s H vs Q E hr h=>?_)
 ·obtain ⟨l,ts,ps,rfl,_⟩:=h;rfl
 obtain ⟨l,ts,ps,rfl,el,B,hne,h64,hnl,hL,q⟩:=h
 refine' ⟨?t,?h,?r⟩
 case h =>
  conv=>arg 2;whnf
  with_reducible refine' Zd ?a1 (Zd ?a2 (Zf ?a3))
  case a1=>exact Zt (i:=1) scLf.nd rfl (Qy rfl) (ZdN (c:=c) (Pl:=Pl) rfl T.sorted (pv 0) hr rfl F.hd hBm)
  case a2=>exact Zt (i:=2) scLf.nd rfl (Qy rfl) (Zr Yd (Zr Zx (pv 1) Ze (fun _ _=>rfl)) Ze (fun _ _=>rfl))
  case a3=>exact Zl (Yw (Zb ZK (Zb (ZD DM hr (Zb (pv 2) Za)) (Zb (YB Zai rfl T.tuple (by decide +kernel) (Zb (pv 1) Za)) Za))))
 refine ⟨_,rfl,l,ts,ps.map (·.1),rfl,el,by rw [B.1];exact h64,by rw [length_map,B.1],fun i t k e1 Y=>?_,hL,fun H2 r ts' gr hL2 hr2 hT=>?_⟩
 ·rw [getElem?_map] at Y
  cases e3:ps[i]? with
  | none=>rw [e3] at Y;cases Y
  | some p =>
   rw [e3] at Y
   have e4:p.1=k:=by simpa using Y
   rw [<- e4]
   exact ⟨_,B.2 i t p e1 e3⟩
 obtain ⟨ps',z,J,G⟩:=ZgL B hT
 obtain ⟨tb,htb⟩:=hL.tbl
 have tf2:TF H H2:=gr.tf htb
 have I:=G.tf tf2
 cases ps' with
 | nil=>exact absurd (OJ z).symm hne
 | cons p1 pr =>
  cases ts' with
  | nil=>have:=G.1;simp at this
  | cons W tr =>
   have e1:=I.2 0 W p1 rfl rfl
   have s3:=Zm hr2 (.lst ((W::tr).map V.ref))
   have Z:p1.1.length<=1000:=hnl p1 (z.mem_iff.mp mem_cons_self)
   refine ⟨_,rfl,r,_,_,_,rfl,rfl,SqL.of Zh,(show YK ((W::tr).map V.ref) ((0:Nat):Int)=some (V.ref W) from ZJ rfl),W,_,_,_,rfl,rfl,SqT.of (s3 _ _ e1),rfl,?_⟩
   refine ⟨_,rfl,p1.1,rfl,Z,fun H4 s4=>⟨_,rfl,r,_,rfl,SqL.of (s4 _ _ Zh),fun t o ht hd=>⟨(by show 3<=Qh;decide),fun a ha=>?_⟩⟩⟩
   have s5:=Zm ht (.frz o (.tup ((W::tr).map V.ref)))
   have s6:=Zm ha (.tup [.str "leaf",.int (Zz p1.1),.ref t])
   have S:=((s3.trans s4).trans s5).trans s6
   refine q a _ p1 pr (Grown.trans' gr S) (LamAt.same hL2 S) z J ⟨t,SqT.of Zh,o,W::tr,s6 _ _ Zh,hd,I.tf S.tf⟩
end
structure YG (K:Qa)(C:Addr):Prop where
 cl:Cls K C
 nN:NoAttr K C "nodes"
 nT:NoAttr K C "tables"
section
variable {P:Qj}{w:Qr}{K:Qa}{mg:Str->Option Qb}{base:Heap}{C:Addr}
def ZgM (K:Qa)(C:Addr):Sp:=fun vs H Q _=>∃(p dx:Addr),vs=[.ref p]/\H p=some (.ins C dx [])/\∀(ln dt:Addr)(H':Hp),H ln=none->H dt=none->StoreAt K C p ln dt H' [.bare] [(QO 0,.bl true)]->Kq [p] H H'->Q .non H'
theorem scIn:Zo ["self"] ["self"] (Zj c_Store___init__):=⟨rfl,rfl,rfl,by decide +kernel,rfl,by decide +kernel,by decide +kernel⟩
theorem ZjY {f:Addr}{fd:Qi}(F:Fun K "__init__" "Store.__init__" c_Store___init__ f fd)(T:Txt K mg)(Z:YG K C):FnOk P w K mg base ZH 1 f fd ["self"] (ZgM K C):=by
 refine F.ok scIn (fun vs H Q E h=>?_) (fun cdv A outer s H vs Q E hr h=>?_)
 ·obtain ⟨p,dx,rfl,_⟩:=h;rfl
 obtain ⟨p,dx,rfl,hp,q⟩:=h
 obtain ⟨ab,hb,hbt⟩:=T.bare
 obtain ⟨tz,hz⟩:=T.zero
 refine ⟨_,Zd (Ub (pv 0) (Yg (Zb (ZT rfl hb (v:=.ref ab) rfl) Za)) rfl) (Zf (Ub (pv 0) (Zkz (Zix (ZT rfl hz (v:=.int 0) ⟨_,rfl⟩) VG Zko) rfl rfl (by simp) (by decide)) rfl)),?_⟩
 refine ⟨(by show 1<=Qh;decide),fun ln W=>?_⟩
 have J:p≠ln:=Zp hp W
 refine ⟨_,rfl,p,C,dx,[],rfl,(by rw [Zi J];exact hp),Z.cl,Z.nN,(by show 0 < 1000;decide),?_⟩
 intro dt B
 have I:p≠dt:=fun z=>by rw [<- z,Zh] at B;cases B
 have S:ln≠dt:=fun z=>by rw [<- z,Zi J.symm,Zh] at B;cases B
 have G:H dt=none:=by rw [Zi I.symm,Zi S.symm] at B;exact B
 refine ⟨Zh,[(QO 0,.bl true)],rfl,by decide,_,rfl,p,C,dx,_,rfl,(by rw [Zi I,Zi I,Zh]),Z.cl,Z.nT,(by show 1 < 1000;decide),?_⟩
 refine q ln dt _ W G ⟨⟨dx,Zh⟩,⟨[ab],?_,rfl,fun i a n e1 e2=>?_⟩,?_⟩ fun b o nb e=>?_
 ·rw [Zi J.symm,Zi S,Zi S,Zi J.symm,Zh];rfl
 ·cases i with
  | zero =>
   cases (show some ab=some a from e1)
   cases (show some Nd.bare=some n from e2)
   exact hbt _
  | succ i=>simp at e1
 ·rw [Zi I.symm,Zh];rfl
 ·have Y:b≠p:=fun z=>nb (by simp [z])
  rw [Zi Y,Zi (Zp e G),Zi (Zp e G),Zi Y,Zi (Zp e W)];exact e
def VA (K:Qa)(C:Addr):Sp:=fun vs H Q _=>∃(st ln dt a:Addr)(nds:List Nd)(tabs:List (Zn×V))(n:Nd),vs=[.ref st,.ref a]/\StoreAt K C st ln dt H nds tabs/\NodeAt K H a n/\nds.length<=100000 /\
 ∀ H',StoreAt K C st ln dt H' (nds++[n]) tabs->Kq [ln] H H'->TF H H'->Q (.int nds.length) H'
theorem scKe:Zo ["self","node"] ["self","node"] (Zj c_Store_keep):=⟨rfl,rfl,rfl,by decide +kernel,rfl,by decide +kernel,by decide +kernel⟩
theorem ZjV {f:Addr}{fd:Qi}(F:Fun K "keep" "Store.keep" c_Store_keep f fd)(T:Txt K mg)(Z:YG K C):FnOk P w K mg base ZH 1 f fd ["self","node"] (VA K C):=by
 refine F.ok scKe (fun vs H Q E h=>?_) (fun cdv A outer s H vs Q E hr h=>?_)
 ·obtain ⟨st,B,dt,a,nds,J,n,rfl,_⟩:=h;rfl
 obtain ⟨st,B,dt,a,nds,J,n,rfl,⟨⟨dx,ob⟩,⟨as,Y,hl,hn⟩,tb⟩,hna,hsz,q⟩:=h
 refine ⟨_,Zd (ZA (Yz Qx QC QD Yl (ZC (pv 0) rfl) (Zb (pv 1) Za))) (Zf (Zl (Zs Ys (Zv Zy rfl T.len QB (Zb (ZC (pv 0) rfl) Za)) Ze))),?_⟩
 have e1:(as.map V.ref).length < sizeLine:=by rw [length_map,hl];exact Gc hsz (by decide)
 refine ⟨_,rfl,st,C,dx,_,_,rfl,ob,Z.cl,Z.nN,Xo B dt,.inl ⟨rfl,_,SqL.of Y⟩,_,rfl,B,_,_,rfl,rfl,Y,e1,?_⟩
 have I:st≠B:=ZaA ob Y (by intro z;cases z)
 have ndl:dt≠B:=ZaA tb Y (by intro z;cases z)
 refine ⟨_,rfl,st,C,dx,_,_,rfl,(by rw [Zi I];exact ob),Z.cl,Z.nN,Xo B dt,B,_,rfl,.inl (SqL.of Zh),_,_,rfl,rfl,?_⟩
 have tf:=ZaL (o:=.lst (as.map V.ref++[.ref a])) Y
 have e2:((((as.map V.ref++[V.ref a]).length:Nat):Int) - 1)=(nds.length:Int):=by rw [length_append,length_map,hl];show ((nds.length+1:Nat):Int) - 1=_;omega
 have S:Q (.int (nds.length:Int)) (upd H B (.lst (as.map V.ref++[.ref a]))):=by
  refine q _ ⟨⟨dx,by rw [Zi I];exact ob⟩,⟨as++[a],by rw [map_append];exact Zh,by rw [length_append,length_append,hl];rfl,fun i b m G W=>?_⟩,by rw [Zi ndl];exact tb⟩ Zau tf
  by_cases hi:i < as.length
  ·rw [getElem?_append_left hi] at G
   rw [getElem?_append_left (by rw [<- hl];exact hi)] at W
   exact (hn i b m G W).tf tf
  ·rw [getElem?_append_right (by omega)] at G
   rw [getElem?_append_right (by omega)] at W
   have h0:i - as.length=0:=by
    cases z:i - as.length with
    | zero=>rfl
    | succ j=>rw [z] at G;simp at G
   rw [h0] at G
   rw [show i - nds.length=0 by omega] at W
   cases (show some a=some b from G)
   cases (show some n=some m from W)
   exact hna.tf tf
 rw [<- e2] at S
 exact S
def Zfb (K:Qa)(C:Addr):Sp:=fun vs H Q _=>∃(st ln dt:Addr)(nds:List Nd)(tabs:List (Zn×V))(n:Int),vs=[.ref st,.int n]/\StoreAt K C st ln dt H nds tabs/\tabs.length<=100000 /\
 ∀ H',StoreAt K C st ln dt H' nds (YI tabs (QO n) (.bl true))->Kq [dt] H H'->TF H H'->Q (.int n) H'
theorem scAs:Zo ["self","number"] ["self","number"] (Zj c_Store_as_table):=⟨rfl,rfl,rfl,by decide +kernel,rfl,by decide +kernel,by decide +kernel⟩
theorem Zlh {f:Addr}{fd:Qi}(F:Fun K "as_table" "Store.as_table" c_Store_as_table f fd)(Y:YG K C):FnOk P w K mg base ZH 1 f fd ["self","number"] (Zfb K C):=by
 refine F.ok scAs (fun vs H Q E h=>?_) (fun cdv A outer s H vs Q E hr h=>?_)
 ·obtain ⟨st,S,G,nds,B,n,rfl,_⟩:=h;rfl
 obtain ⟨st,S,G,nds,B,n,rfl,⟨⟨dx,I⟩,⟨as,Z,hl,hn⟩,tb⟩,hsz,q⟩:=h
 refine ⟨_,Zd (Zer (Zcm hr) (ZC (pv 0) rfl) (pv 1) VG rfl) (Zf (Zl (pv 1))),?_⟩
 refine ⟨_,rfl,st,C,dx,_,_,rfl,I,Y.cl,Y.nT,Zgd S G,_,rfl,G,_,rfl,DPut.k (k:=QO n) tb (Gc hsz (by decide)),_,rfl,?_⟩
 have W:st≠G:=ZaA I tb (by intro z;cases z)
 have J:S≠G:=ZaA Z tb (by intro z;cases z)
 have tf:=ZjP (o:=.dK (YI B (QO n) (.bl true))) tb
 exact q _ ⟨⟨dx,by rw [Zi W];exact I⟩,⟨as,by rw [Zi J];exact Z,hl,fun i a m e1 e2=>(hn i a m e1 e2).tf tf⟩,Zh⟩ Zau tf
def Zbq (K:Qa)(C:Addr):Sp:=fun vs H Q _=>∃(st ln dt:Addr)(nds:List Nd)(tabs:List (Zn×V))(n:Int),vs=[.ref st,.int n]/\StoreAt K C st ln dt H nds tabs/\(ZS tabs (QO n)).isSome=true/\Q .non H
theorem scCk:Zo ["self","table"] ["self","table"] (Zj c_Store_check_table):=⟨rfl,rfl,rfl,by decide +kernel,rfl,by decide +kernel,by decide +kernel⟩
theorem ZiO {f:Addr}{fd:Qi}(F:Fun K "check_table" "Store.check_table" c_Store_check_table f fd)(G:YG K C):FnOk P w K mg base ZH 1 f fd ["self","table"] (Zbq K C):=by
 refine F.ok scCk (fun vs H Q E h=>?_) (fun Y A outer s H vs Q E S h=>?_)
 ·obtain ⟨st,I,B,nds,z,n,rfl,_⟩:=h;rfl
 obtain ⟨st,I,B,nds,z,n,rfl,⟨⟨dx,W⟩,⟨as,Z,hl,hn⟩,tb⟩,J,q⟩:=h
 refine ⟨_,Zf (ZL (WB (Zgr (Zcm S) (pv 1) (ZC (pv 0) rfl))) (Zf Zjk) ZV),?_⟩
 refine ⟨_,rfl,_,rfl,st,C,dx,_,_,rfl,W,G.cl,G.nT,Zgd I B,B,_,rfl,DGet.k (k:=QO n) tb,_,rfl,?_⟩
 rw [J]
 exact Yh q
end
def Yb (n:Int)(k:Nat):Nat:=(n / 4 ^ k % 4).toNat
theorem Wp (n:Int)(k:Nat):(Yb n k:Int)=n / 4 ^ k % 4:=Int.toNat_of_nonneg (Gw _ (by decide))
theorem Uh (n:Int)(k:Nat):Yb n k < 4:=by
 have h1:=Wp n k
 have h2:=Gp (n / 4 ^ k) (show (0:Int) < 4 by decide)
 omega
def Xf (nds:List Nd)(m:Int):Nat->Nat->Nat->Option (List Nat)
 | 0,_,_=>none
 | f+1,lev,num=>match nds[num]? with
  | none=>none
  | some (.fork qs)=>(qs[Yb m lev]?).bind fun q=>(Xf nds m f (lev+1) q).map (num::·)
  | some _=>some [num]
def iN (n:Nat):V:=.int (n:Int)
section
variable {P:Qj}{w:Qr}{K:Qa}{mg:Str->Option Qb}{base:Heap}{C:Addr}
theorem _root_.L2.StoreAt.node {st B G:Addr}{H:Hp}{nds:List Nd}{z:List (Zn×V)}(S:StoreAt K C st B G H nds z){i:Nat}{n:Nd}(h:nds[i]?=some n):∃(as:List Addr)(a:Addr),H B=some (.lst (as.map V.ref))/\as[i]?=some a/\NodeAt K H a n:=by
 obtain ⟨_,⟨as,e,l,I⟩,_⟩:=S
 have hi:i < as.length:=by rw [l];exact (Qn.mp h).1
 exact ⟨as,as[i],e,getElem?_eq_getElem hi,I i _ n (getElem?_eq_getElem hi) h⟩
def Zji (K:Qa)(C:Addr):Sp:=fun vs H Q _=>∃(st ln dt:Addr)(nds:List Nd)(tabs:List (Zn×V))(t:Nat)(x:Str)(f:Nat)(ws:List Nat),vs=[.ref st,iN t,.str x]/\StoreAt K C st ln dt H nds tabs/\(ZS tabs (QO (t:Int))).isSome=true/\x.length<=1000/\0<=Zz x/\f<=1000 /\
 Xf nds (Zz x) f 0 t=some ws/\∀ r H',H r=none->Same H H'->H' r=some (.lst (ws.map iN))->Q (.ref r) H'
theorem scWa:Zo ["self","table","name","told","parts","part"] ["self","table","name"] (Zj c_Store_way):=⟨rfl,rfl,rfl,by decide +kernel,rfl,by decide +kernel,by decide +kernel⟩
theorem ZlH {f : Addr}{fd:Qi}(F:Fun K "way" "Store.way" c_Store_way f fd)(T:Txt K mg)(TC:YG K C)(DC:DefM P w K mg base 1 C "check_table" ["self","table"] (Zbq K C))(DP:Def P w K mg base 1 "parts_in" ["node"] (Ws K))
 (DM:Def P w K mg base 1 "mark" ["name"] WA) (DG:Def P w K mg base 1 "digit" ["number","level"] Wd):FnOk P w K mg base ZH 2 f fd ["self","table","name"] (Zji K C):=by
 refine F.ok scWa (fun vs H Q E h=>?_) (fun cdv A outer s H vs Q E hr h=>?_)
 ·obtain ⟨st,ln,dt,nds,tabs,t,x,f,ws,rfl,_⟩:=h;rfl
 obtain ⟨st,ln,dt,nds,tabs,t,x,fu,ws,rfl,S,htab,hx,hm,hfu,J,q⟩:=h
 refine' ⟨?t,?h,?r⟩
 case h =>
  conv=>arg 2;whnf
  with_reducible refine' Zd ?a1 (Zd ?a2 (Zd ?a3 (Zd (UZ ?w0 ?w1 (Zd ?b1 (Zd ?b2 (Zf ?b3)))) (Zf ?a5))))
  case a1=>exact ZA (Yc DC TC.cl hr (pv 0) (Zb (pv 1) Za))
  case a2=>exact Zt (i:=3) scWa.nd rfl (Qy rfl) (Yg (Zb (pv 1) Za))
  case a3=>exact Zt (i:=4) scWa.nd rfl (Qy rfl) (ZD DP hr (Zb (Zr Zx (ZC (pv 0) rfl) (pv 1) (fun _ _=>rfl)) Za))
  case w0=>exact Gb
  case w1=>exact UW (pv 4) (fun _=>rfl)
  case b1=>exact Zt (i:=5) scWa.nd rfl (Qy rfl) (Zr Yd (pv 4) (ZD DG hr (Zb (ZD DM hr (Zb (pv 2) Za)) (Zb (Zs Ys (Zv Zy rfl T.len QB (Zb (pv 3) Za)) Ze) Za))) (fun _ _=>rfl))
  case b2=>exact ZA (Yz Qx QC QD Yl (pv 3) (Zb (pv 5) Za))
  case b3=>exact Zt (i:=4) scWa.nd rfl (Qy rfl) (ZD DP hr (Zb (Zr Zx (ZC (pv 0) rfl) (pv 5) (fun _ _=>rfl)) Za))
  case a5=>exact Zl (pv 3)
 obtain ⟨dx,ob⟩:=S.ob
 refine ⟨_,rfl,st,dx,_,rfl,ob,ZM ln dt (by decide +kernel) (by decide +kernel),_,rfl,st,ln,dt,nds,tabs,t,rfl,S,htab,_,rfl,(by show 1<=Qh;decide),fun l hl=>?_⟩
 obtain ⟨n,hn⟩:∃ n,nds[t]?=some n:=by
  cases fu with
  | zero=>cases J
  | succ fu =>
   cases e:nds[t]? with
   | none=>unfold Xf at J;rw [e] at J;cases J
   | some n=>exact ⟨n,rfl⟩
 have s1:=Zm hl (.lst [iN t])
 have S1:=S.keep s1
 obtain ⟨as,a,nl,ha,hna⟩:=S1.node hn
 obtain ⟨dx1,ob1⟩:=S1.ob
 refine ⟨_,rfl,st,C,dx1,_,_,rfl,ob1,TC.cl,TC.nN,Xo ln dt,_,rfl,ln,_,_,_,rfl,rfl,SqL.of nl,ZJ (by rw [getElem?_map,ha];rfl),a,n,rfl,hna,fun pt H2 s2 hpt=>?_⟩
 refine ⟨fun W σ H'=>∃ (B wr:List Nat) (G:Nat) (n:Nd) (pt:Addr) (y:Option V),σ=[some (.ref st),some (iN t),some (.str x),some (.ref l),some (.ref pt),y]/\Same H H'/\H' l=some (.lst ((B++[G]).map iN))/\nds[G]?=some n/\SqT K H' pt (n.parts.map iN)/\Xf nds (Zz x) W B.length G=some wr/\ws=B++wr/\W+B.length<=1000,
  ⟨fu,[],ws,t,n,pt,_,rfl,s1.trans s2,s2 _ _ Zh,hn,hpt,J,rfl,by simpa using hfu⟩,?_⟩
 rintro W σ H3 ⟨B,wr,G,n,pt,y,rfl,s3,Y,hn3,hpt3,I,rfl,hfl⟩
 refine ⟨_,rfl,_,.inr (.inl ⟨_,hpt3,rfl⟩),?_⟩
 have stop:n.parts=[]->Xf nds (Zz x) W B.length G=some [G]:=fun z=>by
  cases W with
  | zero=>cases I
  | succ W =>
   unfold Xf at I ⊢
   rw [hn3] at I ⊢
   cases n with
   | bare=>rfl
   | leaf m ps=>rfl
   | fork qs =>
    have z':qs=[]:=z
    subst z'
    simp at I
 by_cases hz:n.parts=[]
 ·rw [hz]
  refine Yh ⟨_,rfl,?_⟩
  have e:=stop hz
  rw [I] at e
  cases e
  exact q l H3 hl s3 Y
 ·have hk : (!(n.parts.map iN).isEmpty)=true:=by
   cases e:n.parts with
   | nil=>exact absurd e hz
   | cons _ _=>rfl
  rw [hk]
  cases n with
  | bare=>exact absurd rfl hz
  | leaf m ps=>exact absurd rfl hz
  | fork qs =>
   cases W with
   | zero=>cases I
   | succ W =>
    unfold Xf at I
    rw [hn3] at I
    cases eq1:qs[Yb (Zz x) B.length]? with
    | none=>simp [eq1] at I
    | some q1 =>
     have Z:(Xf nds (Zz x) W (B.length+1) q1).map (G::·)=some wr:=by simpa [eq1] using I
     cases eq2:Xf nds (Zz x) W (B.length+1) q1 with
     | none=>rw [eq2] at Z;cases Z
     | some wr' =>
      rw [eq2] at Z
      have ewr:G::wr'=wr:=by simpa using Z
      obtain ⟨n',hn'⟩:∃ n',nds[q1]?=some n':=by
       cases W with
       | zero=>cases eq2
       | succ W =>
        cases e:nds[q1]? with
        | none=>unfold Xf at eq2;rw [e] at eq2;cases eq2
        | some n=>exact ⟨n,rfl⟩
      have e2:((((B++[G]).map iN).length:Nat):Int) - 1=(B.length:Int):=by rw [length_map,length_append];show ((B.length+1:Nat):Int) - 1=_;omega
      have hat:YK (qs.map iN) (Zz x / 4 ^ B.length % 4)=some (iN q1):=by rw [<- Wp];exact ZJ (by rw [getElem?_map,eq1];rfl)
      refine Yo ⟨_,fun σ' H' h=>⟨W,TJ _,h⟩,_,rfl,_,rfl,x,rfl,hx,fun H4 s4=>?_⟩
      refine ⟨_,rfl,l,_,rfl,.inl (SqL.of (s4 _ _ Y)),_,_,rfl,rfl,Zz x,B.length,congrArg (fun z=>[V.int (Zz x),V.int z]) e2,hm,by omega,pt,_,_,_,rfl,rfl,hpt3.tf s4.tf,hat,?_⟩
      refine ⟨_,rfl,.inl ⟨rfl,_,SqL.of (s4 _ _ Y)⟩,_,rfl,l,_,_,rfl,rfl,s4 _ _ Y,(by rw [length_map,length_append];show B.length+1 < Qh;exact Gc (show B.length+1<=1001 by omega) (by decide)),?_⟩
      have s5:Same H (upd H4 l (.lst ((B++[G]).map iN++[iN q1]))):=fun b o e=>by rw [Zi (Zp e hl)];exact s4 _ _ (s3 _ _ e)
      have S5:=S.keep s5
      obtain ⟨as5,a5,nl5,ha5,hna5⟩:=S5.node hn'
      obtain ⟨dx5,ob5⟩:=S5.ob
      refine ⟨_,rfl,st,C,dx5,_,_,rfl,ob5,TC.cl,TC.nN,Xo ln dt,_,rfl,ln,_,_,_,rfl,rfl,SqL.of nl5,ZJ (by rw [getElem?_map,ha5];rfl),a5,n',rfl,hna5,fun pt6 H6 s6 hpt6=>?_⟩
      refine ⟨B++[G],wr',q1,n',pt6,_,rfl,s5.trans s6,?_,hn',hpt6,?_,?_,?_⟩
      ·rw [map_append];exact s6 _ _ Zh
      ·rw [length_append];exact eq2
      ·rw [<- ewr,JK];rfl
      ·rw [length_append];show W+(B.length+1)<=1000;omega
def lk (ps:List (Str×V))(x:Str):Option V:=ZS (ps.map fun p=>((QL p.1:Zn),p.2)) (QL x)
def WW (K:Qa)(C:Addr):Sp:=fun vs H Q _=>∃(st ln dt:Addr)(nds:List Nd)(tabs:List (Zn×V))(t:Nat)(x:Str)(f:Nat)(ws:List Nat)(e:Nat)(n:Nd),vs=[.ref st,iN t,.str x]/\StoreAt K C st ln dt H nds tabs/\(ZS tabs (QO (t:Int))).isSome=true/\x.length<=1000/\0<=Zz x/\f<=1000 /\
 Xf nds (Zz x) f 0 t=some (ws++[e])/\nds[e]?=some n/\n.pairs.length<=1000/\(n.pairs.map (·.1)).Nodup/\∀ H',Same H H'->Q ((lk n.pairs x).getD .non) H'
theorem scLo:Zo ["self","table","name","end"] ["self","table","name"] (Zj c_Store_looked):=⟨rfl,rfl,rfl,by decide +kernel,rfl,by decide +kernel,by decide +kernel⟩
theorem ZbG {f:Addr}{fd:Qi}(F:Fun K "looked" "Store.looked" c_Store_looked f fd)(T:Txt K mg)(Y:YG K C)(DW:DefM P w K mg base 2 C "way" ["self","table","name"] (Zji K C))(DR:Def P w K mg base 1 "pairs_in" ["node"] (Xp K)):FnOk P w K mg base ZH 3 f fd ["self","table","name"] (WW K C):=by
 refine F.ok scLo (fun vs H Q E h=>?_) (fun cdv A outer s H vs Q E hr h=>?_)
 ·obtain ⟨st,I,W,nds,z,t,x,f,ws,e,n,rfl,_⟩:=h;rfl
 obtain ⟨st,I,W,nds,z,t,x,fu,ws,e,n,rfl,S,J,hx,hm,hfu,G,hn,hsz,Z,q⟩:=h
 refine' ⟨?t,?h,?r⟩
 case h =>
  conv=>arg 2;whnf
  with_reducible refine' Zd ?a1 (Zf ?a2)
  case a1=>exact Zt (i:=3) scLo.nd rfl (Qy rfl) (Zr Zx (Yc DW Y.cl hr (pv 0) (Zb (pv 1) (Zb (pv 2) Za))) (UN Uc Ze) (fun _ _=>rfl))
  case a2=>exact Zl (Zip (Zcm hr) (YB (Um rfl) rfl T.dict (by decide +kernel) (Zb (ZD DR (hr.mono (by decide)) (Zb (Zr Zx (ZC (pv 0) rfl) (pv 3) (fun _ _=>rfl)) Za)) Za)) (pv 2) ⟨rfl,rfl,rfl,rfl⟩)
 obtain ⟨dx,ob⟩:=S.ob
 refine ⟨_,rfl,st,dx,_,rfl,ob,ZM I W (by decide +kernel) (by decide +kernel),_,rfl,_,rfl,st,I,W,nds,z,t,x,fu,_,rfl,S,J,hx,hm,hfu,G,fun r H1 hr1 s1 el=>?_⟩
 refine ⟨_,rfl,r,_,_,iN e,rfl,rfl,SqL.of el,(by rw [map_append];exact ZiJ _ _),?_⟩
 have S1:=S.keep s1
 obtain ⟨as,a,nl,ha,hna⟩:=S1.node hn
 obtain ⟨dx1,ob1⟩:=S1.ob
 refine ⟨_,rfl,st,C,dx1,_,_,rfl,ob1,Y.cl,Y.nN,Xo I W,_,rfl,I,_,_,_,rfl,rfl,SqL.of nl,ZJ (by rw [getElem?_map,ha];rfl),a,n,rfl,hna,fun pt H2 s2 hpt=>?_⟩
 obtain ⟨o,ts,ept,hod,B,hp⟩:=hpt
 refine ⟨pt,ts,n.pairs,rfl,⟨o,ept,hod⟩,B,hsz,hp,Z,fun d hd=>⟨d,rfl,.inl ⟨_,.inl Zh⟩,_,rfl,_,DGet.k (k:=QL x) Zh,?_⟩⟩
 exact q _ ((s1.trans s2).trans (Zm hd _))
end
def Xg (num lev:Nat):Nd->List Nat
 | .fork qs=>qs
 | .leaf m _=>[0,1,2,3].map fun g=>if g=Yb m lev then num else 0
 | .bare=>[]
def ZdB:Nd->Prop
 | .leaf m ps=>∃ p1 pr,ps=p1::pr/\Zz p1.1=m/\p1.1.length<=1000/\0<=m
 | _=>True
section
variable {P:Qj}{w:Qr}{K:Qa}{mg:Str->Option Qb}{base:Heap}{C:Addr}
def ZiL (K:Qa)(C:Addr):Sp:=fun vs H Q _=>∃(st ln dt:Addr)(nds:List Nd)(tabs:List (Zn×V))(num lev:Nat)(n:Nd),vs=[.ref st,iN num,iN lev]/\StoreAt K C st ln dt H nds tabs/\nds[num]?=some n/\n≠.bare/\ZdB n/\lev<=1000 /\
 ∀ r H',H r=none->Same H H'->H' r=some (.lst ((Xg num lev n).map iN))->Q (.ref r) H'
abbrev nFp:List Str:=["self","number","level","node","first_name","at"]
theorem scFp:Zo nFp ["self","number","level"] (Zj c_Store_fork_parts):=⟨rfl,rfl,rfl,by decide +kernel,rfl,by decide +kernel,by decide +kernel⟩
theorem ZmM {f:Addr}{fd:Qi}(F:Fun K "fork_parts" "Store.fork_parts" c_Store_fork_parts f fd)(T:Txt K mg)(TC:YG K C)(DP:Def P w K mg base 1 "parts_in" ["node"] (Ws K))(DR:Def P w K mg base 1 "pairs_in" ["node"] (Xp K))
 (DM:Def P w K mg base 1 "mark" ["name"] WA) (DG:Def P w K mg base 1 "digit" ["number","level"] Wd):FnOk P w K mg base ZH 2 f fd ["self","number","level"] (ZiL K C):=by
 refine F.ok scFp (fun vs H Q E h=>?_) (fun cdv A outer s H vs Q E hr h=>?_)
 ·obtain ⟨st,ln,dt,nds,tabs,B,lev,n,rfl,_⟩:=h;rfl
 obtain ⟨st,ln,dt,nds,tabs,B,lev,n,rfl,S,hn,hnb,hok,hlev,q⟩:=h
 obtain ⟨tz,hz⟩:=T.zero
 obtain ⟨af,hf,hft⟩:=T.figs
 refine' ⟨?t,?h,?r⟩
 case h =>
  conv=>arg 2;whnf
  with_reducible refine' Zd ?a1 (Zd ?a2 (Zd ?a3 (Zd ?a4 (Zf ?a5))))
  case a1=>exact Zt (i:=3) scFp.nd rfl (Qy rfl) (Zr Zx (ZC (pv 0) rfl) (pv 1) (fun _ _=>rfl))
  case a2=>exact ZL (UW (ZD DP hr (Zb (pv 3) Za)) (fun _=>rfl)) (Zf (Zl (YB Ud rfl T.list (by decide +kernel) (Zb (ZD DP hr (Zb (pv 3) Za)) Za)))) ZV
  case a3=>exact Zt (i:=4) scFp.nd rfl (Qy rfl) (Zr Yd (Zr Yd (ZD DR hr (Zb (pv 3) Za)) Ze (fun _ _=>rfl)) Ze (fun _ _=>rfl))
  case a4=>exact Zt (i:=5) scFp.nd rfl (Tr rfl) (ZD DG hr (Zb (ZD DM hr (Zb (pv 4) Za)) (Zb (pv 2) Za)))
  case a5=>exact Zl (UD (CompOk.of nFp c_Store_fork_parts rfl rfl (by decide +kernel)) rfl (ZcF (ZT rfl hf (v:=.ref af) rfl)) (fun _ _ _ _ _=>XJ (ZE ZU (pv 6) (pv 5) (ZB _)) (pv 1) (ZT rfl hz (v:=.int 0) ⟨_,rfl⟩)))
 obtain ⟨as,a,nl,ha,I⟩:=S.node hn
 obtain ⟨dx,ob⟩:=S.ob
 refine ⟨_,rfl,st,C,dx,_,_,rfl,ob,TC.cl,TC.nN,Xo ln dt,_,rfl,ln,_,_,_,rfl,rfl,SqL.of nl,ZJ (by rw [getElem?_map,ha];rfl),?_⟩
 refine ⟨_,rfl,a,n,rfl,I,fun pt H2 s2 hpt=>⟨_,.inr (.inl ⟨_,hpt,rfl⟩),?_⟩⟩
 cases n with
 | bare=>exact absurd rfl hnb
 | fork qs =>
  have h4:qs.length=4:=by obtain ⟨_,_,_,z⟩:=I;exact z
  have hk:(!(((Nd.fork qs).parts).map (fun q:Nat=>V.int (q:Int))).isEmpty)=true:=by
   cases qs with
   | nil=>cases h4
   | cons _ _=>rfl
  rw [hk]
  refine Yo ⟨_,rfl,a,_,rfl,I.tf s2.tf,fun J H3 s3 G=>⟨J,_,rfl,.inr G,fun l hl=>?_⟩⟩
  have hl0:H l=none:=by
   cases e:H l with
   | none=>rfl
   | some o=>rw [s3 _ _ (s2 _ _ e)] at hl;cases hl
  exact q l _ hl0 ((s2.trans s3).trans (Zm hl _)) Zh
 | leaf m ps =>
  obtain ⟨p1,pr,rfl,hm1,hx1,hm0⟩:=hok
  refine Yh ⟨_,rfl,a,_,rfl,I.tf s2.tf,fun J H3 s3 G=>?_⟩
  obtain ⟨o,ts,ept,hod,Z,hp⟩:=G
  cases ts with
  | nil=>simp [Nd.pairs] at Z
  | cons t1 tr =>
   have et1:=hp 0 t1 p1 rfl rfl
   refine ⟨J,_,_,_,rfl,rfl,.inl (.inr ⟨o,ept⟩),(show YK ((t1::tr).map V.ref) ((0:Nat):Int)=some (V.ref t1) from ZJ rfl),t1,_,_,_,rfl,rfl,SqT.of et1,rfl,?_⟩
   refine ⟨_,rfl,p1.1,rfl,hx1,fun H4 s4=>⟨_,rfl,Zz p1.1,lev,rfl,by rw [hm1];exact hm0,hlev,?_⟩⟩
   refine ⟨af,rfl,⟨_,hft _⟩,fun D hD=>?_⟩
   have s24:=(s2.trans s3).trans s4
   have hD0:H D=none:=by
    cases e:H D with
    | none=>rfl
    | some o=>rw [s24 _ _ e] at hD;cases hD
   refine ZhR (K:=K) (a:=af) (xs:=[.int 0,.int 1,.int 2,.int 3]) (by show 4<=Qh;decide) (fun i ys H'=>ys=(([0,1,2,3]:List Nat).take i).map (fun g=>iN (if g=Yb m lev then B else 0))/\i<=4/\H' D=some (.lst ys)/\Same H H') ?_ ?_ ?_ ?_
   ·exact ⟨rfl,by decide,Zh,s24.trans (Zm hD _)⟩
   ·rintro i ys Y ⟨rfl,hi,_,_⟩
    exact ⟨by rw [length_map,length_take];show min i 4=i;omega,hft _⟩
   ·rintro i x ys Y hi ⟨rfl,hi4,W,s5⟩
    have hi':i < 4:=(Qn.mp hi).1
    have ex:x=iN i:=by
     rcases i with _ | _ | _ | _ | i
     ·cases hi;rfl
     ·cases hi;rfl
     ·cases hi;rfl
     ·cases hi;rfl
     ·omega
    subst ex
    have fin:∀ y,y=iN (if i=Yb m lev then B else 0)->Y D=some (.lst ((([0,1,2,3]:List Nat).take i).map (fun g=>iN (if g=Yb m lev then B else 0))))/\(((([0,1,2,3]:List Nat).take i).map (fun g=>iN (if g=Yb m lev then B else 0))++[y])=(([0,1,2,3]:List Nat).take (i+1)).map (fun g=>iN (if g=Yb m lev then B else 0))/\i+1<=4/\upd Y D (.lst ((([0,1,2,3]:List Nat).take i).map (fun g=>iN (if g=Yb m lev then B else 0))++[y])) D=some (.lst ((([0,1,2,3]:List Nat).take i).map (fun g=>iN (if g=Yb m lev then B else 0))++[y]))/\Same H (upd Y D (.lst ((([0,1,2,3]:List Nat).take i).map (fun g=>iN (if g=Yb m lev then B else 0))++[y])))):=by
     intro y ey
     refine ⟨W,?_,by omega,Zh,fun b o e=>by rw [Zi (Zp e hD0)];exact s5 _ _ e⟩
     subst ey
     rcases i with _ | _ | _ | _ | i
     ·rfl
     ·rfl
     ·rfl
     ·rfl
     ·omega
    have ed:decide (iN i=V.int (Zz p1.1 / 4 ^ lev % 4))=decide (i=Yb m lev):=by
     rw [hm1,<- Wp]
     by_cases z:i=Yb m lev
     ·rw [decide_eq_true z,z];exact decide_eq_true rfl
     ·rw [decide_eq_false z]
      exact decide_eq_false fun y=>z (by have:=V.int.inj y;omega)
    refine ⟨_,rfl,_,rfl,rfl,_,rfl,?_⟩
    rw [ed]
    by_cases z:i=Yb m lev
    ·rw [decide_eq_true z]
     exact Yo ⟨_,rfl,fin _ (by rw [if_pos z])⟩
    ·rw [decide_eq_false z]
     exact Yh (fin _ (by rw [if_neg z];rfl))
   ·rintro ys Y ⟨rfl,_,W,s5⟩
    refine q D Y hD0 s5 ?_
    rw [W]
    rfl
end
def gK (p:Str×V):Zn×V:=(QL p.1,p.2)
theorem Zmz (ps:List (Str×V))(x:Str):lk ps x=ZS (ps.map gK) (QL x):=rfl
theorem ZgS (x:Str):lk [] x=none:=rfl
theorem UB (p:Str×V)(ps:List (Str×V))(x:Str):lk (p::ps) x=if p.1=x then some p.2 else lk ps x:=by
 by_cases h:p.1=x
 ·rw [if_pos h];exact YE (show (gK p).1=QL x by rw [<- h];rfl)
 ·rw [if_neg h];exact YF (show ¬ (gK p).1=QL x from fun z=>h (Tc z))
theorem WY {ps:List (Str×V)}(B:(ps.map (·.1)).Nodup){x:Str}{v:V}:lk ps x=some v↔(x,v)∈ps:=by
 induction ps with
 | nil=>simp [ZgS]
 | cons p ps ih =>
  rw [map_cons,nodup_cons] at B
  rw [UB]
  by_cases h:p.1=x
  ·rw [if_pos h]
   constructor
   ·intro e
    cases e
    rw [<- h];exact mem_cons_self
   ·intro e
    rcases mem_cons.mp e with e | e
    ·rw [<- e]
    ·exact absurd (h ▸ Rj (f:=(·.1)) e) B.1
  ·rw [if_neg h,ih B.2,mem_cons]
   exact ⟨.inr,fun e=>e.resolve_left fun z=>h (by rw [<- z])⟩
theorem ZeN {ps:List (Str×V)}{x:Str}(h:∀ p∈ps,p.1≠x):lk ps x=none:=by
 induction ps with
 | nil=>rfl
 | cons p ps ih=>rw [UB,if_neg (h p mem_cons_self)];exact ih fun q z=>h q (mem_cons_of_mem _ z)
theorem ZeK {ps qs:List (Str×V)}(h:ps.Perm qs)(B:(qs.map (·.1)).Nodup)(x:Str):lk ps x=lk qs x:=by
 have z:(ps.map (·.1)).Nodup:=(h.map (·.1)).nodup_iff.mpr B
 cases e:lk qs x with
 | some v=>exact (WY z).mpr (h.mem_iff.mpr ((WY B).mp e))
 | none =>
  cases e2:lk ps x with
  | none=>rfl
  | some v=>rw [(WY B).mpr (h.mem_iff.mp ((WY z).mp e2))] at e;cases e
def Wi (ps:List (Str×V))(x:Str)(v:V):List (Str×V) :=
 if (ps.any fun p=>decide (p.1=x))=true then ps.map (fun p=>if p.1=x then (p.1,v) else p) else ps++[(x,v)]
theorem Zdo (ps:List (Str×V))(x:Str)(v:V):YI (ps.map gK) (QL x) v=(Wi ps x v).map gK:=by
 have e:∀ p:Str×V,decide ((gK p).1=QL x)=decide (p.1=x):=fun p=>by
  by_cases h:p.1=x
  ·rw [decide_eq_true h];exact decide_eq_true (by rw [<- h];rfl)
  ·rw [decide_eq_false h];exact decide_eq_false fun z=>h (Tc z)
 have e1:((ps.map gK).any fun B=>decide (B.1=QL x))=ps.any fun p=>decide (p.1=x):=by
  rw [List.any_map];congr 1;funext p;exact e p
 unfold YI Wi
 rw [e1]
 by_cases h:(ps.any fun p=>decide (p.1=x))=true
 ·rw [if_pos h,if_pos h,map_map,map_map]
  congr 1
  funext p
  show (if (gK p).1=QL x then ((gK p).1,v) else gK p)=gK (if p.1=x then (p.1,v) else p)
  by_cases z:p.1=x
  ·rw [if_pos z,if_pos (show (gK p).1=QL x by rw [<- z];rfl)];rfl
  ·rw [if_neg z,if_neg (show ¬ (gK p).1=QL x from fun y=>z (Tc y))]
 ·rw [if_neg h,if_neg h,map_append];rfl
theorem Zgz (ps:List (Str×V))(x:Str)(v:V):(Wi ps x v).map (·.1)=if x∈ps.map (·.1) then ps.map (·.1) else ps.map (·.1)++[x]:=by
 have e:(ps.any fun p=>decide (p.1=x))=true↔x∈ps.map (·.1):=by
  rw [List.any_eq_true,mem_map]
  exact ⟨fun ⟨p,h,z⟩=>⟨p,h,of_decide_eq_true z⟩,fun ⟨p,h,z⟩=>⟨p,h,decide_eq_true z⟩⟩
 unfold Wi
 by_cases h:(ps.any fun p=>decide (p.1=x))=true
 ·rw [if_pos h,if_pos (e.mp h),map_map]
  apply Js
  intro p _
  show (if p.1=x then (p.1,v) else p).1=p.1
  split<;>rfl
 ·rw [if_neg h,if_neg fun z=>h (e.mpr z),map_append];rfl
theorem Zkr (ps:List (Str×V))(x y:Str)(v:V):lk (Wi ps x v) y=if y=x then some v else lk ps y:=by
 rw [Zmz,<- Zdo,WX]
 by_cases h:y=x
 ·rw [if_pos h,if_pos (by rw [h])]
 ·rw [if_neg h,if_neg fun z=>h (Tc z)];rfl
structure Yj (NS:List Str):Prop where
 few:NS.length < 64
 len:∀ x∈NS,x.length<=1000
 lo:∀ x∈NS,0<=Zz x
 hi:∀ x∈NS,Zz x < 1024
structure LeafG (NS:List Str)(m:Int)(ps:List (Str×V)):Prop where
 ne:ps≠[]
 nd:(ps.map (·.1)).Nodup
 sub:∀ p∈ps,p.1∈NS
 mrk:∀ p∈ps,Zz p.1=m
def YL (x:Str):Nat:=(Zz x).toNat
def TriE (NS:List Str)(nds:List Nd)(F:Str->Option V)(lev r num:Nat):Prop :=
 (num=0/\nds[num]?=some .bare/\∀ x∈NS,YL x % 4 ^ lev=r->F x=none) \/
 ∃ m ps,nds[num]?=some (.leaf m ps)/\LeafG NS m ps/\m.toNat % 4 ^ lev=r/\∀ x∈NS,YL x % 4 ^ lev=r->F x=lk ps x
def Tri (NS:List Str)(nds:List Nd)(F:Str->Option V):Nat->Nat->Nat->Nat->Prop
 | 0,lev,r,num=>TriE NS nds F lev r num
 | d+1,lev,r,num=>TriE NS nds F lev r num\/∃ qs,nds[num]?=some (.fork qs)/\qs.length=4/\∀ i q,qs[i]?=some q->Tri NS nds F d (lev+1) (r+i * 4 ^ lev) q
def NEx (nds nds':List Nd):Prop:=∀(i:Nat)(n:Nd),nds[i]?=some n->nds'[i]?=some n
theorem NEx.refl (nds:List Nd):NEx nds nds:=fun _ _ h=>h
theorem NEx.trans {a b c:List Nd}(h:NEx a b)(h':NEx b c):NEx a c:=fun i n e=>h' i n (h i n e)
theorem NEx.app (nds:List Nd)(n:Nd):NEx nds (nds++[n]):=fun i m e=>by rw [getElem?_append_left (Qn.mp e).1];exact e
section
variable {NS:List Str}{nds nds':List Nd}{F F':Str->Option V}
theorem TriE.mono {lev r z:Nat}(h:TriE NS nds F lev r z)(e:NEx nds nds'):TriE NS nds' F lev r z:=by
 rcases h with ⟨h1,h2,B⟩ | ⟨m,ps,h1,h2⟩
 ·exact .inl ⟨h1,e _ _ h2,B⟩
 ·exact .inr ⟨m,ps,e _ _ h1,h2⟩
theorem Tri.mono:∀(d:Nat){lev r z:Nat},Tri NS nds F d lev r z->NEx nds nds'->Tri NS nds' F d lev r z
 | 0,_,_,_,h,e=>TriE.mono h e
 | d+1,_,_,_,.inl h,e=>.inl (TriE.mono h e)
 | d+1,_,_,_,.inr ⟨qs,h1,h2,h3⟩,e=>.inr ⟨qs,e _ _ h1,h2,fun i q B=>Tri.mono d (h3 i q B) e⟩
theorem TriE.congr {lev r B:Nat}(h:TriE NS nds F lev r B)(e:∀ x∈NS,YL x % 4 ^ lev=r->F' x=F x):TriE NS nds F' lev r B:=by
 rcases h with ⟨h1,h2,I⟩ | ⟨m,ps,h1,h2,I,J⟩
 ·exact .inl ⟨h1,h2,fun x G z=>by rw [e x G z];exact I x G z⟩
 ·exact .inr ⟨m,ps,h1,h2,I,fun x G z=>by rw [e x G z];exact J x G z⟩
theorem Wn (n lev:Nat):n % 4 ^ (lev+1)=n % 4 ^ lev+(n / 4 ^ lev % 4) * 4 ^ lev:=by
 rw [Nat.pow_succ,Nat.mod_mul,Nat.mul_comm (4 ^ lev)]
theorem XS {n lev r i:Nat}(B:r < 4 ^ lev)(h:n % 4 ^ (lev+1)=r+i * 4 ^ lev):n % 4 ^ lev=r/\n / 4 ^ lev % 4=i:=by
 rw [Wn] at h
 have hp:0 < 4 ^ lev:=Nat.pow_pos (by decide)
 have h1:=Nat.mod_lt n hp
 have e1:n % 4 ^ lev=r:=by
  have z:=congrArg (· % 4 ^ lev) h
  simp only [Nat.add_mul_mod_self_right] at z
  rwa [Nat.mod_mod,OL B] at z
 refine ⟨e1,?_⟩
 rw [e1] at h
 exact Nat.eq_of_mul_eq_mul_right hp (Nat.add_left_cancel h)
theorem WU {lev r i:Nat}(z:r < 4 ^ lev)(hi:i < 4):r+i * 4 ^ lev < 4 ^ (lev+1):=by
 rw [Nat.pow_succ]
 have:i * 4 ^ lev<=3 * 4 ^ lev:=Nat.mul_le_mul_right _ (by omega)
 omega
theorem Tri.congr:∀(d:Nat){lev r z:Nat},r < 4 ^ lev->Tri NS nds F d lev r z->(∀ x∈NS,YL x % 4 ^ lev=r->F' x=F x)->Tri NS nds F' d lev r z
 | 0,_,_,_,_,h,e=>TriE.congr h e
 | d+1,_,_,_,_,.inl h,e=>.inl (TriE.congr h e)
 | d+1,_,_,_,hr,.inr ⟨qs,h1,h2,h3⟩,e=>.inr ⟨qs,h1,h2,fun i q B=>Tri.congr d (WU hr (by rw [<- h2];exact (Qn.mp B).1)) (h3 i q B) fun x I G=>e x I (XS hr G).1⟩
theorem Xt {n:Int}(h:0<=n)(lev:Nat):Yb n lev=n.toNat / 4 ^ lev % 4:=by
 obtain ⟨k,rfl⟩:=Int.eq_ofNat_of_zero_le h
 unfold Yb
 have:((k:Int) / 4 ^ lev % 4)=((k / 4 ^ lev % 4:Nat):Int):=by norm_cast
 rw [this]
 rfl
theorem ZkJ (N:Yj NS):∀(d:Nat){lev r z:Nat}{x:Str},r < 4 ^ lev->Tri NS nds F d lev r z->x∈NS->YL x % 4 ^ lev=r ->
 ∃ J e n,Xf nds (Zz x) (d+1) lev z=some (J++[e])/\nds[e]?=some n/\((e=0/\n=.bare/\F x=none)\/∃ m ps,n=.leaf m ps/\LeafG NS m ps/\F x=lk ps x):=by
 have B:∀ {lev r z:Nat} {x:Str} (d:Nat),TriE NS nds F lev r z->x∈NS->YL x % 4 ^ lev=r->∃ J e n,Xf nds (Zz x) (d+1) lev z=some (J++[e])/\nds[e]?=some n/\((e=0/\n=.bare/\F x=none)\/∃ m ps,n=.leaf m ps/\LeafG NS m ps/\F x=lk ps x):=by
  intro lev r z x d h G I
  rcases h with ⟨h1,h2,S⟩ | ⟨m,ps,h1,h2,S,Z⟩
  ·exact ⟨[],z,.bare,by unfold Xf;rw [h2];rfl,h2,.inl ⟨h1,rfl,S x G I⟩⟩
  ·exact ⟨[],z,.leaf m ps,by unfold Xf;rw [h1];rfl,h1,.inr ⟨m,ps,rfl,h2,Z x G I⟩⟩
 intro d
 induction d with
 | zero=>exact fun _ h G I=>B 0 h G I
 | succ d ih =>
  intro lev r z x W h G I
  rcases h with h | ⟨qs,h1,h2,S⟩
  ·exact B _ h G I
  ·have hi:Yb (Zz x) lev < qs.length:=by rw [h2];exact Uh _ _
   have Y:=getElem?_eq_getElem hi
   obtain ⟨J,e,n,e1,e2,e3⟩:=ih (WU W (Uh _ _)) (S _ _ Y) G (by rw [Wn,I,Xt (N.lo x G)];rfl)
   refine ⟨z::J,e,n,?_,e2,e3⟩
   unfold Xf
   rw [h1]
   show ((qs[Yb (Zz x) lev]?).bind fun q=>(Xf nds (Zz x) (d+1) (lev+1) q).map (z::·))=_
   rw [Y]
   show (Xf nds (Zz x) (d+1) (lev+1) _).map (z::·)=_
   rw [e1]
   rfl
end
theorem ZbA:∀{l N:List Str},l.Nodup->(∀ x∈l,x∈N)->l.length<=N.length:=by
 intro l
 induction l with
 | nil=>intro N _ _;exact QF _
 | cons a l ih =>
  intro N B G
  rw [nodup_cons] at B
  have I:a∈N:=G a mem_cons_self
  have:=ih (N:=N.erase a) B.2 fun x J=>(List.mem_erase_of_ne (show x≠a from fun z=>B.1 (by rw [<- z];exact J))).mpr (G x (mem_cons_of_mem _ J))
  rw [List.length_erase_of_mem I] at this
  have h1:0 < N.length:=List.length_pos_of_mem I
  rw [length_cons];omega
section
variable {NS:List Str}{nds nds':List Nd}{F F':Str->Option V}
theorem LeafG.few {m:Int}{ps:List (Str×V)}(G:LeafG NS m ps):ps.length<=NS.length:=by
 have:=ZbA G.nd (N:=NS) fun x z=>by obtain ⟨p,hp,rfl⟩:=mem_map.mp z;exact G.sub p hp
 rwa [length_map] at this
theorem LeafG.perm {m:Int}{ps qs:List (Str×V)}(G:LeafG NS m ps)(h:qs.Perm ps):LeafG NS m qs :=
 ⟨fun z=>G.ne (by rw [z] at h;exact (OJ h).symm),(h.map (·.1)).nodup_iff.mpr G.nd,fun p hp=>G.sub p (h.mem_iff.mp hp),fun p hp=>G.mrk p (h.mem_iff.mp hp)⟩
theorem LeafG.ok {m:Int}{ps:List (Str×V)}(N:Yj NS)(G:LeafG NS m ps):ZdB (.leaf m ps):=by
 cases ps with
 | nil=>exact absurd rfl G.ne
 | cons p pr =>
  have h1:=G.mrk p mem_cons_self
  have h2:=G.sub p mem_cons_self
  exact ⟨p,pr,rfl,h1,N.len _ h2,by rw [<- h1];exact N.lo _ h2⟩
theorem ZiM {ps:List (Str×V)}{x:Str}(v:V)(hx:x∈NS)(I:(ps.map (·.1)).Nodup)(S:∀ p∈ps,p.1∈NS)(Z:∀ p∈ps,Zz p.1=Zz x):LeafG NS (Zz x) (Wi ps x v):=by
 have G:=Zgz ps x v
 have B:∀ p∈Wi ps x v,p.1∈ps.map (·.1)\/p.1=x:=fun p hp=>by
  have h1:p.1∈(Wi ps x v).map (·.1):=Rj hp
  rw [G] at h1
  by_cases h:x∈ps.map (·.1)
  ·rw [if_pos h] at h1;exact .inl h1
  ·rw [if_neg h] at h1
   rcases mem_append.mp h1 with z | z
   ·exact .inl z
   ·exact .inr (mem_singleton.mp z)
 refine ⟨fun z=>?_,?_,fun p hp=>?_,fun p hp=>?_⟩
 ·rw [z] at G
  by_cases h:x∈ps.map (·.1)
  ·rw [if_pos h] at G;rw [<- G] at h;cases h
  ·rw [if_neg h] at G;simp at G
 ·rw [G]
  by_cases h:x∈ps.map (·.1)
  ·rw [if_pos h];exact I
  ·rw [if_neg h,Tj]
   exact ⟨I,by simp,fun a W b Y e=>h (by rw [mem_singleton.mp Y] at e;rw [<- e];exact W)⟩
 ·rcases B p hp with z | z
  ·obtain ⟨q,J,e⟩:=mem_map.mp z
   rw [<- e];exact S q J
  ·rw [z];exact hx
 ·rcases B p hp with z | z
  ·obtain ⟨q,J,e⟩:=mem_map.mp z
   rw [<- e];exact Z q J
  ·rw [z]
def upF (F:Str->Option V)(x:Str)(v:V):Str->Option V:=fun y=>if y=x then some v else F y
theorem ZhC {d lev r:Nat}{m:Int}{ps qs:List (Str×V)}{x:Str}{v:V}{z:Nat}(N:Yj NS)(Z:x∈NS)(I:YL x % 4 ^ lev=r)(Y:nds[z]?=some (.leaf m qs))(S:m=Zz x)(G:LeafG NS (Zz x) (Wi ps x v))(hp:qs.Perm (Wi ps x v))
 (J:∀ y∈NS,YL y % 4 ^ lev=r->F y=lk ps y):Tri NS nds (upF F x v) d lev r z:=by
 subst S
 have h:TriE NS nds (upF F x v) lev r z:=by
  refine .inr ⟨Zz x,qs,Y,G.perm hp,I,fun y W B=>?_⟩
  rw [ZeK hp G.nd,Zkr]
  unfold upF
  by_cases h:y=x
  ·rw [if_pos h,if_pos h]
  ·rw [if_neg h,if_neg h];exact J y W B
 cases d with
 | zero=>exact h
 | succ d=>exact .inl h
theorem ZiE {d lev r B:Nat}{n:Nd}(N:Yj NS)(h0:nds[0]?=some .bare)(hr:r < 4 ^ lev)(h:Tri NS nds F (d+1) lev r B)(W:nds[B]?=some n)(Z:n≠.bare) :
 (Xg B lev n).length=4/\∀ (i q:Nat),(Xg B lev n)[i]?=some q->Tri NS nds F d (lev+1) (r+i * 4 ^ lev) q:=by
 have wrapE:∀ {r' q:Nat},TriE NS nds F (lev+1) r' q->Tri NS nds F d (lev+1) r' q:=fun g=>by
  cases d with
  | zero=>exact g
  | succ d=>exact .inl g
 rcases h with h | ⟨qs,h1,h2,h3⟩
 ·rcases h with ⟨_,e,_⟩ | ⟨m,ps,e,G,hm,hF⟩
  ·rw [W] at e;cases e;exact absurd rfl Z
  ·rw [W] at e;cases e
   obtain ⟨p1,pr,e1,e2,e3,e4⟩:=G.ok N
   refine ⟨rfl,fun i q S=>?_⟩
   have hi:i < 4:=(Qn.mp S).1
   have I:(if i=Yb m lev then B else 0)=q:=by
    rcases i with _ | _ | _ | _ | i
    ·exact Qv S
    ·exact Qv S
    ·exact Qv S
    ·exact Qv S
    ·omega
   have hmm:m.toNat % 4 ^ (lev+1)=r+Yb m lev * 4 ^ lev:=by rw [Wn,hm,Xt e4]
   by_cases z:i=Yb m lev
   ·rw [if_pos z] at I
    subst I
    exact wrapE (.inr ⟨m,ps,W,G,by rw [hmm,z],fun y Y J=>hF y Y (XS hr J).1⟩)
   ·rw [if_neg z] at I
    subst I
    refine wrapE (.inl ⟨rfl,h0,fun y Y J=>?_⟩)
    rw [hF y Y (XS hr J).1]
    refine ZeN fun p hp e=>z ?_
    have:=(XS hr J).2
    rw [<- this,<- e]
    unfold YL
    rw [G.mrk p hp,Xt e4]
 ·rw [W] at h1;cases h1
  exact ⟨h2,h3⟩
theorem ZhA {r z:Nat}{n:Nd}{x:Str}(N:Yj NS)(h:Tri NS nds F 0 5 r z)(J:nds[z]?=some n)(B:n≠.bare)(S:x∈NS)(I:YL x % 4 ^ 5=r):n.hasM (Zz x)=true:=by
 rcases h with ⟨_,e,_⟩ | ⟨m,ps,e,G,Y,hF⟩
 ·rw [J] at e;cases e;exact absurd rfl B
 ·rw [J] at e;cases e
  refine decide_eq_true ?_
  obtain ⟨p1,pr,e1,e2,e3,e4⟩:=G.ok N
  have h1:Zz p1.1 < 1024:=N.hi _ (G.sub p1 (by rw [e1];exact mem_cons_self))
  have h2:=N.hi x S
  have h3:=N.lo x S
  rw [e2] at h1
  unfold YL at I
  have W:m.toNat % 1024=r:=Y
  have Z:(Zz x).toNat % 1024=r:=I
  rw [OL (by omega)] at W Z
  omega
theorem Zhs {d lev r I num':Nat}{qs:List Nat}{x:Str}{v:V}(N:Yj NS)(S:r < 4 ^ lev)(hx:x∈NS)(W:YL x % 4 ^ lev=r)(J:qs.length=4)(hq:∀(i q:Nat),qs[i]?=some q->Tri NS nds F d (lev+1) (r+i * 4 ^ lev) q)
 (e:NEx nds nds') (Z:Tri NS nds' F' d (lev+1) (r+Yb (Zz x) lev * 4 ^ lev) num') (Y:∀ y,y≠x->F' y=F y) (h:nds'[I]?=some (.fork (qs.set (Yb (Zz x) lev) num'))):Tri NS nds' F' (d+1) lev r I:=by
 refine .inr ⟨_,h,by rw [length_set,J],fun i q hi=>?_⟩
 have B:i < 4:=by rw [<- J];have:=(Qn.mp hi).1;rwa [length_set] at this
 rw [Tk] at hi
 by_cases z:Yb (Zz x) lev=i
 ·rw [if_pos z,if_pos (by rw [J,z];exact B)] at hi
  cases hi
  rw [<- z]
  exact Z
 ·rw [if_neg z] at hi
  refine Tri.congr d (WU S B) (Tri.mono d (hq i q hi) e) fun y hy G=>Y y fun w=>z ?_
  rw [w] at G
  rw [Xt (N.lo x hx)]
  exact (XS S G).2
end
section
variable {P:Qj}{w:Qr}{K:Qa}{mg:Str->Option Qb}{base:Heap}{C Pl:Addr}{NS:List Str}
def Vn (K:Qa)(C Pl:Addr)(NS:List Str):Nat->Sp
 | 0=>fun _ _ _ _=>False
 | d+1=>fun vs H Q _=>∃ (st ln dt:Addr) (nds:List Nd) (tabs:List (Zn×V)) (num lev r:Nat) (x:Str) (v:V) (F:Str->Option V),vs=[.ref st,iN num,iN lev,.str x,v]/\StoreAt K C st ln dt H nds tabs/\nds[0]?=some .bare/\Tri NS nds F d lev r num/\r < 4 ^ lev/\lev+d=5/\x∈NS/\YL x % 4 ^ lev=r/\nds.length+d+1<=100000/\LamAt H Pl YH Xx /\
  ∀ (H':Hp) (nds':List Nd) (num':Nat),StoreAt K C st ln dt H' nds' tabs->NEx nds nds'->nds'.length<=nds.length+d+1->Tri NS nds' (upF F x v) d lev r num'->LamAt H' Pl YH Xx->Kq [ln,Pl] H H'->TF H H'->Q (iN num') H'
abbrev nPi:List Str:=["self","number","level","name","value"]
theorem scPI:Zo ["self","number","level","name","value","node","pairs","parts","figure"] nPi (Zj c_Store_put_in):=⟨rfl,rfl,rfl,by decide +kernel,rfl,by decide +kernel,by decide +kernel⟩
theorem UI {nds:List Nd}{F:Str->Option V}:∀{d lev r B:Nat},Tri NS nds F d lev r B->∃ n,nds[B]?=some n/\(n=.bare->B=0):=by
 have e:∀ {lev r B:Nat},TriE NS nds F lev r B->∃ n,nds[B]?=some n/\(n=.bare->B=0):=fun h=>by
  rcases h with ⟨h1,h2,_⟩ | ⟨m,ps,h1,_⟩
  ·exact ⟨_,h2,fun _=>h1⟩
  ·exact ⟨_,h1,fun z=>by cases z⟩
 intro d lev r B h
 cases d with
 | zero=>exact e h
 | succ d =>
  rcases h with h | ⟨qs,h1,_⟩
  ·exact e h
  ·exact ⟨_,h1,fun z=>by cases z⟩
theorem Zir {nds:List Nd}{F:Str->Option V}{d lev r B:Nat}{n:Nd}{x:Str}(S:nds[0]?=some .bare)(h:Tri NS nds F d lev r B)(I:nds[B]?=some n)(J:B=0\/n.hasM (Zz x)=true) :
 (n.pairs.map (·.1)).Nodup/\(∀ p∈n.pairs,p.1∈NS)/\(∀ p∈n.pairs,Zz p.1=Zz x)/\(∀ y∈NS,YL y % 4 ^ lev=r->F y=lk n.pairs y)/\n.pairs.length<=NS.length:=by
 have e:TriE NS nds F lev r B->(n.pairs.map (·.1)).Nodup/\(∀ p∈n.pairs,p.1∈NS)/\(∀ p∈n.pairs,Zz p.1=Zz x)/\(∀ y∈NS,YL y % 4 ^ lev=r->F y=lk n.pairs y)/\n.pairs.length<=NS.length:=fun g=>by
  rcases g with ⟨h1,h2,Y⟩ | ⟨m,ps,h1,G,hm,W⟩
  ·rw [I] at h2;cases h2
   exact ⟨JN,fun p hp=>(by cases hp),fun p hp=>(by cases hp),Y,QF _⟩
  ·rw [I] at h1;cases h1
   rcases J with z | z
   ·rw [z,S] at I;cases I
   ·have Z:m=Zz x:=of_decide_eq_true z
    exact ⟨G.nd,G.sub,fun p hp=>by rw [G.mrk p hp,Z],W,G.few⟩
 cases d with
 | zero=>exact e h
 | succ d =>
  rcases h with h | ⟨qs,h1,_⟩
  ·exact e h
  ·rw [I] at h1;cases h1
   rcases J with z | z
   ·rw [z,S] at I;cases I
   ·cases z
theorem ZjS {f:Addr}{fd:Qi}{d k:Nat}(N:Yj NS)(hk:2<=k)(F:Fun K "put_in" "Store.put_in" c_Store_put_in f fd)(T:Txt K mg)(TC:YG K C)
 (DH:Def P w K mg base 1 "has_mark" ["node","number"] (Vp K)) (DR:Def P w K mg base 1 "pairs_in" ["node"] (Xp K)) (DM:Def P w K mg base 1 "mark" ["name"] WA) (DG:Def P w K mg base 1 "digit" ["number","level"] Wd)
 (DL:Def P w K mg base 2 "leaf_of" ["pairs"] (Vk K Pl YH)) (DO:Def P w K mg base 1 "fork_of" ["parts"] (WQ K)) (DK:DefM P w K mg base 1 C "keep" ["self","node"] (VA K C)) (DF:DefM P w K mg base 2 C "fork_parts" ["self","number","level"] (ZiL K C))
 (DI:DefM P w K mg base k C "put_in" nPi (Vn K C Pl NS d)):FnOk P w K mg base ZH (k+1) f fd nPi (Vn K C Pl NS (d+1)):=by
 refine F.ok scPI (fun vs H Q E h=>?_) (fun cdv A outer s H vs Q E hr h=>?_)
 ·obtain ⟨st,ln,dt,nds,tabs,B,lev,r,x,v,F,rfl,_⟩:=h;rfl
 obtain ⟨st,ln,dt,nds,tabs,B,lev,r,x,v,Fm,rfl,S,h0,W,hrl,hlev,hx,hxr,hlen,hL,q⟩:=h
 obtain ⟨tz,hz⟩:=T.zero
 have Z:=hr.mono (show 1<=k by omega)
 have hr2:=hr.mono hk
 refine' ⟨?t,?h,?r⟩
 case h =>
  conv=>arg 2;whnf
  with_reducible refine' Zd ?a1 (Zd (ZL ?a2 (Zd ?c1 (Zd ?c2 (Zf ?c3))) ZV) (Zd ?a3 (Zd ?a4 (Zd ?a5 (Zf ?a6)))))
  case a1=>exact Zt (i:=5) scPI.nd rfl (Qy rfl) (Zr Zx (ZC (pv 0) rfl) (pv 1) (fun _ _=>rfl))
  case a2=>exact PW.pt (Zfs (ZE ZU (pv 1) (ZT rfl hz (v:=.int 0) ⟨_,rfl⟩) (ZB _)) (ZcU (XD (ZD DH Z (Zb (pv 5) (Zb (ZD DM Z (Zb (pv 3) Za)) Za))))))
  case c1=>exact Zt (i:=6) scPI.nd rfl (Qy rfl) (YB (Um rfl) rfl T.dict (by decide +kernel) (Zb (ZD DR Z (Zb (pv 5) Za)) Za))
  case c2=>exact Zer (Zcm hr) (pv 6) (pv 3) (pv 4) rfl
  case c3=>exact Zl (Yc DK TC.cl Z (pv 0) (Zb (ZD DL hr2 (Zb (YB (ZaG rfl) rfl T.list (by decide +kernel) (Zb (ZlU TM TW PySem.F.type_dict_items ZiN (pv 6)) Za)) Za)) Za))
  case a3=>exact Zt (i:=7) scPI.nd rfl (Qy rfl) (Yc DF TC.cl hr2 (pv 0) (Zb (pv 1) (Zb (pv 2) Za)))
  case a4=>exact Zt (i:=8) scPI.nd rfl (Qy rfl) (ZD DG Z (Zb (ZD DM Z (Zb (pv 3) Za)) (Zb (pv 2) Za)))
  case a5=>exact WF (Yc DI TC.cl hr (pv 0) (Zb (Zr Zx (pv 7) (pv 8) (fun _ _=>rfl)) (Zb (Zs Yq (pv 2) Ze) (Zb (pv 3) (Zb (pv 4) Za))))) (Zbh (pv 7) (pv 8) US)
  case a6=>exact Zl (Yc DK TC.cl Z (pv 0) (Zb (ZD DO Z (Zb (pv 7) Za)) Za))
 obtain ⟨n,hn,hbare⟩:=UI W
 obtain ⟨as,a,nl,ha,hna⟩:=S.node hn
 obtain ⟨dx,ob⟩:=S.ob
 obtain ⟨tb,htb⟩:=hL.tbl
 have hst:st ∉ [Pl]:=fun z=>by rw [mem_singleton.mp z,htb] at ob;cases ob
 have hln:ln ∉ [Pl]:=fun z=>by rw [mem_singleton.mp z,htb] at nl;cases nl
 have hdt:dt ∉ [Pl]:=fun z=>by have e:=S.tb;rw [mem_singleton.mp z,htb] at e;cases e
 refine ⟨_,rfl,st,C,dx,_,_,rfl,ob,TC.cl,TC.nN,Xo ln dt,_,rfl,ln,_,_,_,rfl,rfl,SqL.of nl,ZJ (by rw [getElem?_map,ha];rfl),?_⟩
 refine ⟨_,rfl,rfl,_,rfl,?_⟩
 have ed:decide (iN B=V.int 0)=decide (B=0):=by
  by_cases z:B=0
  ·rw [decide_eq_true z,z];exact decide_eq_true rfl
  ·rw [decide_eq_false z]
   exact decide_eq_false fun y=>z (by have:=V.int.inj y;omega)
 rw [ed]
 rcases Classical.em (B=0\/n.hasM (Zz x)=true) with hc | hc
 ·obtain ⟨hnd,hsub,hmrk,hF,hfew⟩:=Zir h0 W hn hc
  by_cases z0:B=0
  rw [decide_eq_true z0]
  have s1:Same H H:=Same.refl H
  refine Yo (Yo ?_)
  rotate_left
  rw [decide_eq_false z0]
  refine Yh ⟨_,rfl,_,rfl,x,rfl,N.len x hx,fun H1 s1=>⟨a,n,Zz x,rfl,hna.tf s1.tf,_,rfl,?_⟩⟩
  rw [hc.resolve_left z0]
  refine Yo ?_
  all_goals
   have S1:=S.keep s1
   refine ⟨_,rfl,a,n,rfl,hna.tf s1.tf,fun pt H2 s2 hpt=>?_⟩
   obtain ⟨o,ts,ept,hod,hlts,hp⟩:=hpt
   have hfw:=N.few
   refine ⟨pt,ts,n.pairs,rfl,⟨o,ept,hod⟩,hlts,by omega,hp,hnd,fun dd hd=>?_⟩
   have hd0:H dd=none:=by
    cases e:H dd with
    | none=>rfl
    | some o=>rw [s2 _ _ (s1 _ _ e)] at hd;cases hd
   have s3:=Zm hd (.dK (n.pairs.map fun p=>((QL p.1:Zn),p.2)))
   refine ⟨_,rfl,_,rfl,_,rfl,dd,_,rfl,DPut.k (k:=QL x) Zh (by rw [length_map];exact Gc (show n.pairs.length<=64 by omega) (by decide)),?_⟩
   have s4:Same H (upd (upd H2 dd (.dK (n.pairs.map fun p=>((QL p.1:Zn),p.2)))) dd (.dK (YI (n.pairs.map fun p=>((QL p.1:Zn),p.2)) (QL x) v))):=fun b o e=>by
    rw [Zi (Zp e hd0),Zi (Zp e hd0)];exact s2 _ _ (s1 _ _ e)
   have ed4:upd (upd H2 dd (.dK (n.pairs.map fun p=>((QL p.1:Zn),p.2)))) dd (.dK (YI (n.pairs.map fun p=>((QL p.1:Zn),p.2)) (QL x) v)) dd=some (.dK ((Wi n.pairs x v).map gK)):=by
    rw [Zh,<- Zdo];rfl
   generalize upd (upd H2 dd (.dK (n.pairs.map fun p=>((QL p.1:Zn),p.2)))) dd (.dK (YI (n.pairs.map fun p=>((QL p.1:Zn),p.2)) (QL x) v))=H4 at *
   have S4:=S.keep s4
   obtain ⟨dx4,ob4⟩:=S4.ob
   refine ⟨_,rfl,st,dx4,_,rfl,ob4,ZM ln dt (by decide +kernel) (by decide +kernel),_,rfl,.inr (.inr (.inl ⟨rfl,.inl ⟨_,ed4⟩⟩)),dd,_,rfl,rfl,ed4,fun vv hvv=>?_⟩
   have s5:=Zm hvv (.ext (ZaQ vv dd))
   refine ⟨vv,dd,_,rfl,Zh,s5 _ _ ed4,fun l ts2 H5 hl5 s5b hlt2 hnone htup hlst=>?_⟩
   have s6:Same H H5:=(s4.trans s5).trans s5b
   have G:=ZiM (NS:=NS) v hx hnd hsub hmrk
   have hPT:PairT H5 ts2 (Wi n.pairs x v):=by
    refine ⟨by rw [hlt2,length_map],fun i b p e1 e2=>?_⟩
    exact htup i b (gK p) e1 (by rw [getElem?_map,e2];rfl)
   have hL5:=LamAt.same hL s6
   refine ⟨l,ts2,Wi n.pairs x v,rfl,hlst,hPT,G.ne,by have:=G.few;omega,fun p hp=>N.len _ (G.sub p hp),hL5,fun a6 H6 p1 pr g6 L6 perm6 sort6 node6=>?_⟩
   have tb5:H5 Pl=some (.tbl tb):=s6 _ _ htb
   have tf6:TF H5 H6:=g6.tf tb5
   have S6:=(S.keep s6).kq g6.kq tf6 hst hln hdt
   refine ⟨st,ln,dt,a6,nds,tabs,_,rfl,S6,node6,by omega,fun H7 S7 k7 tf7=>?_⟩
   have nl6:∃ xs,H6 ln=some (.lst xs):=by obtain ⟨as6,e6,_⟩:=S6.nl;exact ⟨_,e6⟩
   have hmk:Zz p1.1=Zz x:=(G.perm perm6).mrk p1 mem_cons_self
   refine q H7 _ nds.length S7 (NEx.app nds _) (by rw [length_append];show nds.length+1<=_;omega) ?_ (L6.kq k7 fun b hb=>by rw [mem_singleton.mp hb];exact nl6) ?_ ((s6.tf.trans tf6).trans tf7)
   ·exact ZhC (ps:=n.pairs) N hx hxr (by rw [getElem?_append_right (Qg _),Jb];rfl) hmk G perm6 hF
   ·exact (Same.kq s6).trans ((g6.kq.sub fun b hb=>by simp at hb ⊢;exact .inr hb).trans (k7.sub fun b hb=>by simp at hb ⊢;exact .inl hb))
 ·have z0:B≠0:=fun z=>hc (.inl z)
  have zm:n.hasM (Zz x)=false:=by
   cases e:n.hasM (Zz x) with
   | false=>rfl
   | true=>exact absurd (.inr e) hc
  have hnb:n≠.bare:=fun z=>z0 (hbare z)
  rw [decide_eq_false z0]
  refine Yh ⟨_,rfl,_,rfl,x,rfl,N.len x hx,fun H1 s1=>⟨a,n,Zz x,rfl,hna.tf s1.tf,_,rfl,?_⟩⟩
  rw [zm]
  refine Yh ?_
  cases d with
  | zero =>
   have h5:lev=5:=by omega
   subst h5
   exact absurd (.inr (ZhA N W hn hnb hx hxr)) hc
  | succ d =>
   obtain ⟨hf4,hft⟩:=ZiE N h0 hrl W hn hnb
   have hok:ZdB n:=by
    rcases W with W | ⟨qs,h1,_⟩
    ·rcases W with ⟨z,_⟩ | ⟨m,ps,h1,G,_⟩
     ·exact absurd z z0
     ·rw [hn] at h1;cases h1;exact G.ok N
    ·rw [hn] at h1;cases h1;exact trivial
   have S1:=S.keep s1
   obtain ⟨dx1,ob1⟩:=S1.ob
   refine ⟨_,rfl,st,dx1,_,rfl,ob1,ZM ln dt (by decide +kernel) (by decide +kernel),_,rfl,_,rfl,st,ln,dt,nds,tabs,B,lev,n,rfl,S1,hn,hnb,hok,by omega,fun rl H2 hrl1 s2 el=>?_⟩
   refine ⟨_,rfl,x,rfl,N.len x hx,fun H3 s3=>⟨_,rfl,Zz x,lev,rfl,N.lo x hx,by omega,?_⟩⟩
   have s13:Same H H3:=(s1.trans s2).trans s3
   have S3:=S.keep s13
   have I:H rl=none:=by
    cases e:H rl with
    | none=>rfl
    | some o=>rw [s1 _ _ e] at hrl1;cases hrl1
   have el3:=s3 _ _ el
   have hdl:Yb (Zz x) lev < (Xg B lev n).length:=by rw [hf4];exact Uh _ _
   have hq1:=getElem?_eq_getElem hdl
   generalize (Xg B lev n)[Yb (Zz x) lev]=q1 at hq1
   have hat:YK ((Xg B lev n).map iN) (Zz x / 4 ^ lev % 4)=some (iN q1):=by rw [<- Wp];exact ZJ (by rw [getElem?_map,hq1];rfl)
   obtain ⟨dx3,ob3⟩:=S3.ob
   refine ⟨_,rfl,st,dx3,_,rfl,ob3,ZM ln dt (by decide +kernel) (by decide +kernel),_,rfl,_,rfl,rl,_,_,_,rfl,rfl,SqL.of el3,hat,_,rfl,_,_,rfl,rfl,_,rfl,_,rfl,?_⟩
   refine ⟨st,ln,dt,nds,tabs,q1,lev+1,_,x,v,Fm,rfl,S3,h0,hft _ _ hq1,WU hrl (Uh _ _),by omega,hx,by rw [Wn,hxr,Xt (N.lo x hx)];rfl,by omega,LamAt.same hL s13,fun H5 Y J S5 ext5 len5 tri5 L5 kq5 tf5=>?_⟩
   have nrl:rl ∉ [ln,Pl]:=fun z=>by
    rcases mem_cons.mp z with z | z
    ·rw [z,nl] at I;cases I
    ·rw [mem_singleton.mp z,htb] at I;cases I
   have el5:=kq5 _ _ nrl el3
   have hix:Wz ((Xg B lev n).map iN).length (Zz x / 4 ^ lev % 4)=some (Yb (Zz x) lev):=by
    rw [<- Wp,length_map]
    unfold Wz
    rw [if_pos (by omega),if_pos (by omega)]
    rfl
   refine ⟨_,rfl,_,rfl,rl,_,_,_,rfl,rfl,el5,hix,?_⟩
   have tf6:=ZaL (o:=.lst (((Xg B lev n).map iN).set (Yb (Zz x) lev) (iN J))) el5
   have k6:Kq [rl] H5 (upd H5 rl (.lst (((Xg B lev n).map iN).set (Yb (Zz x) lev) (iN J)))):=Zau
   have nst:st ∉ [rl]:=fun z=>by rw [<- mem_singleton.mp z,ob] at I;cases I
   have nln:ln ∉ [rl]:=fun z=>by rw [<- mem_singleton.mp z,nl] at I;cases I
   have ndt:dt ∉ [rl]:=fun z=>by rw [<- mem_singleton.mp z,S.tb] at I;cases I
   have S6:=S5.kq k6 tf6 nst nln ndt
   have el6:upd H5 rl (.lst (((Xg B lev n).map iN).set (Yb (Zz x) lev) (iN J))) rl=some (.lst (((Xg B lev n).set (Yb (Zz x) lev) J).map iN)):=by rw [Zh,List.map_set]
   have L6:=L5.kq k6 fun b hb=>by rw [mem_singleton.mp hb];exact ⟨_,el5⟩
   have kh:Kq [ln,Pl] H (upd H5 rl (.lst (((Xg B lev n).map iN).set (Yb (Zz x) lev) (iN J)))):=fun b o nb e=>by
    rw [Zi (Zp e I)];exact kq5 _ _ nb (s13 _ _ e)
   generalize upd H5 rl (.lst (((Xg B lev n).map iN).set (Yb (Zz x) lev) (iN J)))=H6 at *
   obtain ⟨dx6,ob6⟩:=S6.ob
   refine ⟨_,rfl,st,dx6,_,rfl,ob6,ZM ln dt (by decide +kernel) (by decide +kernel),_,rfl,rl,(Xg B lev n).set (Yb (Zz x) lev) J,rfl,el6,by rw [length_set,hf4],fun a7 H7 s7 node7=>?_⟩
   have S7:=S6.keep s7
   refine ⟨st,ln,dt,a7,Y,tabs,_,rfl,S7,node7,by omega,fun H8 S8 k8 tf8=>?_⟩
   have nl7:∃ xs,H7 ln=some (.lst xs):=by obtain ⟨as7,e7,_⟩:=S7.nl;exact ⟨_,e7⟩
   refine q H8 _ Y.length S8 (ext5.trans (NEx.app Y _)) (by rw [length_append];show Y.length+1<=_;omega) ?_ ((LamAt.same L6 s7).kq k8 fun b hb=>by rw [mem_singleton.mp hb];exact nl7) ?_ ((((s13.tf.trans tf5).trans tf6).trans s7.tf).trans tf8)
   ·refine Zhs (v:=v) (num':=J) (F:=Fm) (qs:=Xg B lev n) N hrl hx hxr hf4 hft (ext5.trans (NEx.app Y _)) (Tri.mono d tri5 (NEx.app Y _)) (fun y hy=>if_neg hy) ?_
    rw [getElem?_append_right (Qg _),Jb];rfl
   ·exact (kh.trans (Same.kq s7)).trans (k8.sub fun b hb=>by simp at hb ⊢;exact .inl hb)
end
section
variable {P:Qj}{w:Qr}{K:Qa}{mg:Str->Option Qb}{base:Heap}{C Pl:Addr}{NS:List Str}
theorem ZeP {f:Addr}{fd:Qi}(N:Yj NS)(F:Fun K "put_in" "Store.put_in" c_Store_put_in f fd)(T:Txt K mg)(z:YG K C)
 (Z:Def P w K mg base 1 "has_mark" ["node","number"] (Vp K)) (Y:Def P w K mg base 1 "pairs_in" ["node"] (Xp K)) (B:Def P w K mg base 1 "mark" ["name"] WA) (I:Def P w K mg base 1 "digit" ["number","level"] Wd)
 (G:Def P w K mg base 2 "leaf_of" ["pairs"] (Vk K Pl YH)) (S:Def P w K mg base 1 "fork_of" ["parts"] (WQ K)) (J:DefM P w K mg base 1 C "keep" ["self","node"] (VA K C)) (W:DefM P w K mg base 2 C "fork_parts" ["self","number","level"] (ZiL K C))
 (b:Binds K fd nPi []) (mt:Us K C "put_in" f):∀ d,FnOk P w K mg base ZH (2+d) f fd nPi (Vn K C Pl NS d)
 | 0=>F.ok scPI (fun _ _ _ _ h=>h.elim) (fun _ _ _ _ _ _ _ _ _ h=>h.elim)
 | d+1=>ZjS N (Jr 2 d) F T z Z Y B I G S J W ⟨f,fd,ZeP N F T z Z Y B I G S J W b mt d,b,mt⟩
def Zeb:Sp:=fun vs H Q _=>∃ u v,vs=[u,v]/\scal u v=true/\Q (.bl (decide (u=v))) H
theorem scAl:Zo ["one","other"] ["one","other"] (Zj s_alike):=⟨rfl,rfl,rfl,by decide +kernel,rfl,by decide +kernel,by decide +kernel⟩
theorem Zib {f:Addr}{fd:Qi}(F:Fun K "alike" "alike" s_alike f fd):FnOk P w K mg base ZH 1 f fd ["one","other"] Zeb:=by
 refine F.ok scAl (fun vs H Q E h=>?_) (fun B A outer s H vs Q E G h=>?_)
 ·obtain ⟨u,v,rfl,_⟩:=h;rfl
 obtain ⟨u,v,rfl,z,q⟩:=h
 exact ⟨_,Zf (Zl (Xa ZU (pv 0) (pv 1) (ZB _))),⟨_,rfl,_,rfl,z,q⟩⟩
def ValV:V->Prop
 | .int _=>True
 | .str _=>True
 | _=>False
theorem ValV.scal {o:Option V}{v:V}(h:ValV v)(z:∀ u,o=some u->ValV u):scal (o.getD .non) v=true:=by
 cases o with
 | none=>cases v<;>first | rfl | exact h.elim
 | some u =>
  have B:=z u rfl
  cases u<;>first | exact B.elim | (cases v<;>first | rfl | exact h.elim)
theorem ValV.ne {v:V}(h:ValV v):v≠.non:=fun z=>by subst z;exact h
theorem UQ {nds:List Nd}{F:Str->Option V}{t:Nat}{x:Str}(N:Yj NS)(h:Tri NS nds F 5 0 0 t)(S:x∈NS) :
 ∃ B e n,Xf nds (Zz x) 6 0 t=some (B++[e])/\nds[e]?=some n/\n.pairs.length<=1000/\(n.pairs.map (·.1)).Nodup/\lk n.pairs x=F x:=by
 obtain ⟨B,e,n,e1,J,I⟩:=ZkJ N 5 (by decide) h S (by rw [Os,OW])
 refine ⟨B,e,n,e1,J,?_⟩
 have W:=N.few
 rcases I with ⟨_,rfl,z⟩ | ⟨m,ps,rfl,G,z⟩
 ·exact ⟨QF _,JN,by rw [z];rfl⟩
 ·exact ⟨by have:=G.few;show ps.length<=1000;omega,G.nd,z.symm⟩
def Zjp (K:Qa)(C Pl:Addr)(NS:List Str):Sp:=fun vs H Q _=>∃(st ln dt:Addr)(nds:List Nd)(tabs:List (Zn×V))(t:Nat)(x:Str)(v:V)(F:Str->Option V),vs=[.ref st,iN t,.str x,v]/\StoreAt K C st ln dt H nds tabs/\nds[0]?=some .bare/\(ZS tabs (QO (t:Int))).isSome=true/\Tri NS nds F 5 0 0 t/\x∈NS/\ValV v/\(∀ u,F x=some u->ValV u)/\nds.length+6<=100000/\tabs.length<=100000/\LamAt H Pl YH Xx /\
 ∀ (H':Hp) (nds':List Nd) (tabs':List (Zn×V)) (t':Nat),StoreAt K C st ln dt H' nds' tabs'->NEx nds nds'->nds'.length<=nds.length+6->tabs'.length<=tabs.length+1->(∀ k,(ZS tabs k).isSome=true->(ZS tabs' k).isSome=true)->(ZS tabs' (QO (t':Int))).isSome=true->Tri NS nds' (upF F x v) 5 0 0 t'->LamAt H' Pl YH Xx->Kq [ln,dt,Pl] H H'->TF H H'->Q (iN t') H'
theorem scPu:Zo ["self","table","name","value"] ["self","table","name","value"] (Zj c_Store_put):=⟨rfl,rfl,rfl,by decide +kernel,rfl,by decide +kernel,by decide +kernel⟩
theorem Zlf {f:Addr}{fd:Qi}(N:Yj NS)(F:Fun K "put" "Store.put" c_Store_put f fd)(TC:YG K C)(DA:Def P w K mg base 1 "alike" ["one","other"] Zeb)(DLk:DefM P w K mg base 3 C "looked" ["self","table","name"] (WW K C))
 (DAs:DefM P w K mg base 1 C "as_table" ["self","number"] (Zfb K C)) (DI:DefM P w K mg base 8 C "put_in" nPi (Vn K C Pl NS 6)):FnOk P w K mg base ZH 9 f fd ["self","table","name","value"] (Zjp K C Pl NS):=by
 refine F.ok scPu (fun vs H Q E h=>?_) (fun cdv A outer s H vs Q E hr h=>?_)
 ·obtain ⟨st,Z,W,nds,B,t,x,v,F,rfl,_⟩:=h;rfl
 obtain ⟨st,Z,W,nds,B,t,x,v,Fm,rfl,S,h0,Y,G,hx,hv,hFv,hlen,htl,hL,q⟩:=h
 have hr1:=hr.mono (show 1<=8 by decide)
 have hr3:=hr.mono (show 3<=8 by decide)
 refine' ⟨?t,?h,?r⟩
 case h =>
  conv=>arg 2;whnf
  with_reducible refine' Zd (ZL ?a1 (Zf ?a2) ZV) (Zf ?a3)
  case a1=>exact XD (ZD DA hr1 (Zb (Yc DLk TC.cl hr3 (pv 0) (Zb (pv 1) (Zb (pv 2) Za))) (Zb (pv 3) Za)))
  case a2=>exact Zl (pv 1)
  case a3=>exact Zl (Yc DAs TC.cl hr1 (pv 0) (Zb (Yc DI TC.cl hr (pv 0) (Zb (pv 1) (Zb Ze (Zb (pv 2) (Zb (pv 3) Za))))) Za))
 obtain ⟨dx,ob⟩:=S.ob
 obtain ⟨ws,e,n,e1,e2,e3,e4,e5⟩:=UQ N G hx
 refine ⟨_,rfl,st,dx,_,rfl,ob,ZM Z W (by decide +kernel) (by decide +kernel),_,rfl,_,rfl,st,Z,W,nds,B,t,x,6,ws,e,n,rfl,S,Y,N.len x hx,N.lo x hx,by decide,e1,e2,e3,e4,fun H1 s1=>?_⟩
 rw [e5]
 refine ⟨_,rfl,_,_,rfl,hv.scal hFv,_,rfl,?_⟩
 have S1:=S.keep s1
 have hL1:=LamAt.same hL s1
 by_cases hc:(Fm x).getD .non=v
 ·rw [decide_eq_true hc]
  refine Yo ⟨_,rfl,q H1 nds B t S1 (NEx.refl _) (by omega) (by omega) (fun _ h=>h) Y (Tri.congr 5 (by decide) G fun y _ _=>?_) hL1 (Same.kq s1) s1.tf⟩
  unfold upF
  by_cases z:y=x
  ·rw [if_pos z,z]
   cases eF:Fm x with
   | none=>rw [eF] at hc;exact absurd hc.symm hv.ne
   | some u=>rw [eF] at hc;exact congrArg some hc.symm
  ·rw [if_neg z]
 ·rw [decide_eq_false hc]
  obtain ⟨dx1,ob1⟩:=S1.ob
  refine Yh ⟨_,rfl,st,dx1,_,rfl,ob1,ZM Z W (by decide +kernel) (by decide +kernel),_,rfl,st,dx1,_,rfl,ob1,ZM Z W (by decide +kernel) (by decide +kernel),_,rfl,_,rfl,_,rfl,?_⟩
  refine ⟨st,Z,W,nds,B,t,0,0,x,v,Fm,rfl,S1,h0,G,by decide,rfl,hx,by rw [Os,OW],hlen,hL1,fun H2 J I S2 ext2 len2 tri2 L2' kq2 tf2=>?_⟩
  refine ⟨st,Z,W,J,B,I,rfl,S2,by omega,fun H3 S3 k3 tf3=>?_⟩
  obtain ⟨tb,htb⟩:=L2'.tbl
  refine q H3 J _ I S3 ext2 len2 (XB _ _ _) (fun k hk=>?_) (by rw [WX,if_pos rfl];rfl) tri2 ?_ ?_ ((s1.tf.trans tf2).trans tf3)
  ·rw [WX]
   by_cases z:k=QO (I:Int)
   ·rw [if_pos z];rfl
   ·rw [if_neg z];exact hk
  ·have hdl:∀ b∈[W],∃ xs,H2 b=some (.dK xs):=fun b hb=>by rw [mem_singleton.mp hb];exact ⟨_,S2.tb⟩
   rcases L2' with h | ⟨c,h,h2⟩
   ·exact .inl (k3 _ _ (fun z=>by obtain ⟨_,e⟩:=hdl _ z;rw [h] at e;cases e) h)
   ·exact .inr ⟨c,k3 _ _ (fun z=>by obtain ⟨_,e⟩:=hdl _ z;rw [h] at e;cases e) h,k3 _ _ (fun z=>by obtain ⟨_,e⟩:=hdl _ z;rw [h2] at e;cases e) h2⟩
  ·exact ((Same.kq s1).trans (kq2.sub fun b hb=>by simp at hb ⊢;rcases hb with z | z;exact .inl z;exact .inr (.inr z))).trans (k3.sub fun b hb=>by simp at hb ⊢;exact .inr (.inl hb))
end
section
variable {NS:List Str}{nds nds':List Nd}{F F':Str->Option V}
def VN (F:Str->Option V)(x:Str):Str->Option V:=fun y=>if y=x then none else F y
def Wg (ps:List (Str×V))(x:Str):List (Str×V):=ps.filter fun p=>!decide (p.1=x)
theorem Zeg (ps:List (Str×V))(x y:Str):lk (Wg ps x) y=if y=x then none else lk ps y:=by
 induction ps with
 | nil => by_cases h:y=x
          · rw [if_pos h];rfl
          · rw [if_neg h];rfl
 | cons p ps ih =>
   unfold Wg at ih ⊢
   rw [OM]
   by_cases hp:p.1=x
   · rw [decide_eq_true hp]
     show lk (ps.filter fun p=>!decide (p.1=x)) y=_
     rw [ih,UB]
     by_cases h:y=x
     · rw [if_pos h,if_pos h]
     · rw [if_neg h,if_neg h,if_neg fun z=>h (by rw [<- z,hp])]
   · rw [decide_eq_false hp]
     show lk (p::ps.filter fun p=>!decide (p.1=x)) y=_
     rw [UB,ih,UB]
     by_cases h:y=x
     · rw [if_pos h,if_pos h,if_neg fun z=>hp (by rw [z,h])]
     · rw [if_neg h,if_neg h]
theorem LeafG.but {m:Int}{ps:List (Str×V)}{x:Str}(G:LeafG NS m ps)(h:Wg ps x≠[]):LeafG NS m (Wg ps x):=by
 have z:(Wg ps x).Sublist ps:=List.filter_sublist
 exact ⟨h,G.nd.sublist (z.map (·.1)),fun p hp=>G.sub p (z.subset hp),fun p hp=>G.mrk p (z.subset hp)⟩
theorem ZbC {d lev r z:Nat}(h:TriE NS nds F lev r z):Tri NS nds F d lev r z:=by
 cases d with
 | zero=>exact h
 | succ d=>exact .inl h
theorem ZgK {d lev r z:Nat}{n:Nd}{x:Str}{Z:V}(h:Tri NS nds F d lev r z)(W:nds[z]?=some n)(Y:x∈NS)(B:YL x % 4 ^ lev=r)(I:F x=some Z) :
 (∃ ps,n=.leaf (Zz x) ps/\LeafG NS (Zz x) ps/\∀ y∈NS,YL y % 4 ^ lev=r->F y=lk ps y)\/∃ qs d',d=d'+1/\n=.fork qs/\qs.length=4/\∀ i q,qs[i]?=some q->Tri NS nds F d' (lev+1) (r+i * 4 ^ lev) q:=by
 have e:TriE NS nds F lev r z->∃ ps,n=.leaf (Zz x) ps/\LeafG NS (Zz x) ps/\∀ y∈NS,YL y % 4 ^ lev=r->F y=lk ps y:=fun g=>by
  rcases g with ⟨_,_,J⟩ | ⟨m,ps,h1,G,_,S⟩
  ·rw [J x Y B] at I;cases I
  ·rw [W] at h1;cases h1
   have hm:Zz x=m:=by
    rw [S x Y B] at I
    exact G.mrk _ ((WY G.nd).mp I)
   subst hm
   exact ⟨ps,rfl,G,S⟩
 cases d with
 | zero=>exact .inl (e h)
 | succ d =>
  rcases h with h | ⟨qs,h1,h2,J⟩
  ·exact .inl (e h)
  ·rw [W] at h1;cases h1
   exact .inr ⟨qs,d,rfl,rfl,h2,J⟩
theorem ZhK {lev r z:Nat}{ps qs:List (Str×V)}{x:Str}(d:Nat)(I:YL x % 4 ^ lev=r)(W:nds[z]?=some (.leaf (Zz x) qs))(G:LeafG NS (Zz x) (Wg ps x))(hp:qs.Perm (Wg ps x))(J:∀ y∈NS,YL y % 4 ^ lev=r->F y=lk ps y):Tri NS nds (VN F x) d lev r z:=by
 refine ZbC (.inr ⟨Zz x,qs,W,G.perm hp,I,fun y S B=>?_⟩)
 rw [ZeK hp G.nd,Zeg]
 unfold VN
 by_cases h:y=x
 ·rw [if_pos h,if_pos h]
 ·rw [if_neg h,if_neg h];exact J y S B
theorem Zhz {lev r:Nat}{ps:List (Str×V)}{x:Str}(d:Nat)(J:nds[0]?=some .bare)(B:Wg ps x=[])(G:∀ y∈NS,YL y % 4 ^ lev=r->F y=lk ps y):Tri NS nds (VN F x) d lev r 0:=by
 refine ZbC (.inl ⟨rfl,J,fun y I z=>?_⟩)
 have:=Zeg ps x y
 rw [B,ZgS] at this
 unfold VN
 by_cases h:y=x
 ·rw [if_pos h]
 ·rw [if_neg h] at this ⊢;rw [G y I z];exact this.symm
theorem ZgX {d lev r num':Nat}{qs:List Nat}{x:Str}(N:Yj NS)(I:r < 4 ^ lev)(hx:x∈NS)(S:YL x % 4 ^ lev=r)(J:qs.length=4)(Z:∀(i q:Nat),qs[i]?=some q->Tri NS nds F d (lev+1) (r+i * 4 ^ lev) q)
 (e:NEx nds nds') (Y:Tri NS nds' F' d (lev+1) (r+Yb (Zz x) lev * 4 ^ lev) num') (W:∀ y,y≠x->F' y=F y) (i q:Nat) (hi:(qs.set (Yb (Zz x) lev) num')[i]?=some q):Tri NS nds' F' d (lev+1) (r+i * 4 ^ lev) q:=by
 have B:i < 4:=by rw [<- J];have:=(Qn.mp hi).1;rwa [length_set] at this
 rw [Tk] at hi
 by_cases z:Yb (Zz x) lev=i
 ·rw [if_pos z,if_pos (by rw [J,z];exact B)] at hi
  cases hi
  rw [<- z]
  exact Y
 ·rw [if_neg z] at hi
  refine Tri.congr d (WU I B) (Tri.mono d (Z i q hi) e) fun y hy G=>W y fun w=>z ?_
  rw [w] at G
  rw [Xt (N.lo x hx)]
  exact (XS I G).2
theorem ZaW {qs:List Nat}{q:Nat}(h:(qs.filter fun p=>!decide (p=0))=[q]):∃ i:Nat,qs[i]?=some q/\q≠0/\∀(j p:Nat),qs[j]?=some p->j≠i->p=0:=by
 induction qs with
 | nil=>cases h
 | cons a qs ih =>
  rw [OM] at h
  by_cases G:a=0
  ·rw [decide_eq_true G] at h
   obtain ⟨i,h1,h2,I⟩:=ih h
   refine ⟨i+1,h1,h2,fun j p hj B=>?_⟩
   cases j with
   | zero=>cases hj;exact G
   | succ j=>exact I j p hj fun z=>B (by rw [z])
  ·rw [decide_eq_false G] at h
   have h':a::(qs.filter fun p=>!decide (p=0))=[q]:=h
   obtain ⟨e1,J⟩:=Tu h'
   refine ⟨0,by rw [e1];rfl,by rw [<- e1];exact G,fun j p hj B=>?_⟩
   cases j with
   | zero=>exact absurd rfl B
   | succ j =>
    have hp:p∈qs:=mem_of_getElem? hj
    by_cases z:p=0
    ·exact z
    ·have:p∈qs.filter fun p=>!decide (p=0):=mem_filter.mpr ⟨hp,by rw [decide_eq_false z];rfl⟩
     rw [J] at this;cases this
theorem ZkX {d lev r q:Nat}{qs:List Nat}{m:Int}{ps:List (Str×V)}(N:Yj NS)(h0:nds[0]?=some .bare)(hr:r < 4 ^ lev)(hl:qs.length=4)(hq:∀(i q:Nat),qs[i]?=some q->Tri NS nds F d (lev+1) (r+i * 4 ^ lev) q)
 (h1:(qs.filter fun p=>!decide (p=0))=[q]) (hn:nds[q]?=some (.leaf m ps)):Tri NS nds F (d+1) lev r q:=by
 obtain ⟨i,hi,hq0,J⟩:=ZaW h1
 have B:TriE NS nds F (lev+1) (r+i * 4 ^ lev) q:=by
  have:=hq i q hi
  cases d with
  | zero=>exact this
  | succ d =>
   rcases this with h | ⟨W,h,_⟩
   ·exact h
   ·rw [hn] at h;cases h
 rcases B with ⟨z,_⟩ | ⟨m',ps',e,G,hm,hF⟩
 ·exact absurd z hq0
 ·rw [hn] at e;cases e
  obtain ⟨p1,pr,e1,e2,e3,e4⟩:=G.ok N
  obtain ⟨Z,Y⟩:=XS hr hm
  refine .inl (.inr ⟨m,ps,hn,G,Z,fun y S hry=>?_⟩)
  have hj:Yb (Zz y) lev < qs.length:=by rw [hl];exact Uh _ _
  have I:YL y % 4 ^ (lev+1)=r+Yb (Zz y) lev * 4 ^ lev:=by rw [Wn,hry,Xt (N.lo y S)];rfl
  by_cases z:Yb (Zz y) lev=i
  ·rw [z] at I;exact hF y S I
  ·have hz:=J _ _ (getElem?_eq_getElem hj) z
   have ht:=hq _ _ (getElem?_eq_getElem hj)
   rw [hz] at ht
   have hE:TriE NS nds F (lev+1) (r+Yb (Zz y) lev * 4 ^ lev) 0:=by
    cases d with
    | zero=>exact ht
    | succ d =>
     rcases ht with h | ⟨W,h,_⟩
     ·exact h
     ·rw [h0] at h;cases h
   rcases hE with ⟨_,_,h3⟩ | ⟨m',ps',e,_⟩
   ·rw [h3 y S I]
    refine (ZeN fun p hp e=>z ?_).symm
    rw [Xt (N.lo y S),<- Y,<- e,G.mrk p hp]
   ·rw [h0] at e;cases e
theorem Zam {d lev r z:Nat}{qs:List Nat}(G:nds[z]?=some (.fork qs))(B:qs.length=4)(I:∀(i q:Nat),qs[i]?=some q->Tri NS nds F d (lev+1) (r+i * 4 ^ lev) q):Tri NS nds F (d+1) lev r z:=.inr ⟨qs,G,B,I⟩
end
theorem ZkF {X:Cx}{K:Qa}(z:X.K=K):IxR X (rIxT K):=by subst z;exact Yd
section
variable {P:Qj}{w:Qr}{K:Qa}{mg:Str->Option Qb}{base:Heap}{C Pl:Addr}{NS:List Str}
def ZaZ (K:Qa)(C Pl:Addr)(NS:List Str):Nat->Sp
 | 0=>fun _ _ _ _=>False
 | d+1=>fun vs H Q _=>∃ (st ln dt:Addr) (nds:List Nd) (tabs:List (Zn×V)) (num lev r:Nat) (x:Str) (v0:V) (F:Str->Option V),vs=[.ref st,iN num,iN lev,.str x]/\StoreAt K C st ln dt H nds tabs/\nds[0]?=some .bare/\Tri NS nds F d lev r num/\r < 4 ^ lev/\lev+d=5/\x∈NS/\YL x % 4 ^ lev=r/\F x=some v0/\nds.length+d+1<=100000/\LamAt H Pl YH Xx /\
  ∀ (H':Hp) (nds':List Nd) (num':Nat),StoreAt K C st ln dt H' nds' tabs->NEx nds nds'->nds'.length<=nds.length+d+1->Tri NS nds' (VN F x) d lev r num'->LamAt H' Pl YH Xx->Kq [ln,Pl] H H'->TF H H'->Q (iN num') H'
abbrev nTk:List Str:=["self","number","level","name"]
abbrev nTa:List Str:=["self","number","level","name","node","left","parts","figure","filled"]
theorem scTk:Zo nTa nTk (Zj c_Store_taken_from):=⟨rfl,rfl,rfl,by decide +kernel,rfl,by decide +kernel,by decide +kernel⟩
theorem ZlJ {f : Addr}{fd:Qi}{d k:Nat}(N:Yj NS)(hk:2<=k)(F:Fun K "taken_from" "Store.taken_from" c_Store_taken_from f fd)(T:Txt K mg)(TC:YG K C)
 (DH:Def P w K mg base 1 "has_mark" ["node","number"] (Vp K)) (DP:Def P w K mg base 1 "parts_in" ["node"] (Ws K)) (DR:Def P w K mg base 1 "pairs_in" ["node"] (Xp K)) (DM:Def P w K mg base 1 "mark" ["name"] WA) (DG:Def P w K mg base 1 "digit" ["number","level"] Wd)
 (DL:Def P w K mg base 2 "leaf_of" ["pairs"] (Vk K Pl YH)) (DO:Def P w K mg base 1 "fork_of" ["parts"] (WQ K)) (DK:DefM P w K mg base 1 C "keep" ["self","node"] (VA K C))
 (DI:DefM P w K mg base k C "taken_from" nTk (ZaZ K C Pl NS d)):FnOk P w K mg base ZH (k+1) f fd nTk (ZaZ K C Pl NS (d+1)):=by
 refine F.ok scTk (fun vs H Q E h=>?_) (fun cdv A outer s H vs Q E hr h=>?_)
 ·obtain ⟨st,Z,dt,nds,tabs,num,lev,r,x,v0,F,rfl,_⟩:=h;rfl
 obtain ⟨st,Z,dt,nds,tabs,num,lev,r,x,v0,Fm,rfl,S,h0,htri,hrl,hlev,hx,hxr,hFx,hlen,hL,q⟩:=h
 obtain ⟨tz,hz⟩:=T.zero
 have hr1:=hr.mono (show 1<=k by omega)
 have hr2:=hr.mono hk
 refine' ⟨?t,?h,?r⟩
 case h =>
  conv=>arg 2;whnf
  with_reducible refine' Zd ?a1 (Zd (ZL ?a2 (Zd ?c1 (Zf ?c2)) ZV) (Zd ?a3 (Zd ?a4 (Zd ?a5 (Zd ?a6 (Zd (ZL ?a7 (Zf ?a8) ZV) (Zf ?a9)))))))
  case a1=>exact Zt (i:=4) scTk.nd rfl (Qy rfl) (Zr Zx (ZC (pv 0) rfl) (pv 1) (fun _ _=>rfl))
  case a2=>exact XD (ZD DH hr1 (Zb (pv 4) (Zb (ZD DM hr1 (Zb (pv 3) Za)) Za)))
  case c1=>exact VS (i:=5) (CompOk.of nTa c_Store_taken_from rfl rfl (by decide +kernel)) rfl scTk.nd rfl (Qy rfl) (ZcF (ZD DR hr1 (Zb (pv 4) Za))) (fun _ _ _ _ _=>ZE ZeZ (Zr (ZkF (K:=K) rfl) (pv 9) Ze (fun _ _=>rfl)) (pv 3) (ZB _)) (fun _ _ _ _ _=>pv 9) rfl
  case c2=>exact Zl (XJ (UW (pv 5) (fun _=>rfl)) (Yc DK TC.cl hr1 (pv 0) (Zb (ZD DL hr2 (Zb (pv 5) Za)) Za)) (ZT rfl hz (v:=.int 0) ⟨_,rfl⟩))
  case a3=>exact Zt (i:=6) scTk.nd rfl (Qy rfl) (YB Ud rfl T.list (by decide +kernel) (Zb (ZD DP hr1 (Zb (pv 4) Za)) Za))
  case a4=>exact Zt (i:=7) scTk.nd rfl (Qy rfl) (ZD DG hr1 (Zb (ZD DM hr1 (Zb (pv 3) Za)) (Zb (pv 2) Za)))
  case a5=>exact WF (Yc DI TC.cl hr (pv 0) (Zb (Zr Zx (pv 6) (pv 7) (fun _ _=>rfl)) (Zb (Zs Yq (pv 2) Ze) (Zb (pv 3) Za)))) (Zbh (pv 6) (pv 7) US)
  case a6=>exact VS (i:=8) (CompOk.of nTa c_Store_taken_from rfl rfl (by decide +kernel)) rfl scTk.nd rfl (Qy rfl) (Zbo (pv 6)) (fun _ _ _ _ _=>ZE ZeZ (pv 9) (ZT rfl hz (v:=.int 0) ⟨_,rfl⟩) (ZB _)) (fun _ _ _ _ _=>pv 9) rfl
  case a7=>exact PW.pt (ZdL (ZE ZU (Zv Zy rfl T.len QB (Zb (pv 8) Za)) Ze (ZB _)) (Zbw (UW (ZD DR hr1 (Zb (Zr Zx (ZC (pv 0) rfl) (Zr Zx (pv 8) Ze (fun _ _=>rfl)) (fun _ _=>rfl)) Za)) (fun _=>rfl))))
  case a8=>exact Zl (Zr Zx (pv 8) Ze (fun _ _=>rfl))
  case a9=>exact Zl (Yc DK TC.cl hr1 (pv 0) (Zb (ZD DO hr1 (Zb (pv 6) Za)) Za))
 obtain ⟨n,hn,hbare⟩:=UI htri
 obtain ⟨as,a,nl,ha,hna⟩:=S.node hn
 obtain ⟨dx,ob⟩:=S.ob
 obtain ⟨tb,htb⟩:=hL.tbl
 have hst:st ∉ [Pl]:=fun z=>by rw [mem_singleton.mp z,htb] at ob;cases ob
 have hln:Z ∉ [Pl]:=fun z=>by rw [mem_singleton.mp z,htb] at nl;cases nl
 have hdt:dt ∉ [Pl]:=fun z=>by have e:=S.tb;rw [mem_singleton.mp z,htb] at e;cases e
 refine ⟨_,rfl,st,C,dx,_,_,rfl,ob,TC.cl,TC.nN,Xo Z dt,_,rfl,Z,_,_,_,rfl,rfl,SqL.of nl,ZJ (by rw [getElem?_map,ha];rfl),?_⟩
 refine ⟨_,rfl,_,rfl,x,rfl,N.len x hx,fun H1 s1=>⟨a,n,Zz x,rfl,hna.tf s1.tf,_,rfl,?_⟩⟩
 rcases ZgK htri hn hx hxr hFx with ⟨ps,rfl,G,hF⟩ | ⟨qs,d',rfl,rfl,hq4,hqs⟩
 ·rw [show (Nd.leaf (Zz x) ps).hasM (Zz x)=true from decide_eq_true rfl]
  refine Yo ?_
  refine ⟨_,rfl,a,_,rfl,hna.tf s1.tf,fun pt H2 s2 hpt=>?_⟩
  obtain ⟨o,ts,ept,hod,hlts,hp⟩:=hpt
  have hlts':ts.length=ps.length:=hlts
  have s12:=s1.trans s2
  have hfw:=N.few
  have hgf:=G.few
  refine ⟨pt,rfl,⟨_,.inl (.inr ⟨o,ept⟩)⟩,fun D hD=>?_⟩
  have hD0:H D=none:=by
   cases e:H D with
   | none=>rfl
   | some o=>rw [s12 _ _ e] at hD;cases hD
  have hzl:(ts.zip ps).length=ts.length:=by rw [Px,hlts',On]
  have hzs:(ts.zip ps).map (·.2)=ps:=List.map_snd_zip (by omega)
  refine ZgW (K:=K) (a:=pt) (xs:=ts.map V.ref) (by rw [length_map];exact Qw (show ts.length<=64 by omega) (by decide))
   (fun i ys H'=>ys=(((ts.zip ps).take i).filter fun z=>!decide (z.2.1=x)).map (fun z=>V.ref z.1)/\H' D=some (.lst ys)/\Same H2 H') ⟨rfl,Zh,Zm hD _⟩ ?_ ?_ ?_
  ·rintro i ys H' ⟨rfl,_,s'⟩
   refine ⟨?_,.inl (.inr ⟨o,s' _ _ ept⟩)⟩
   rw [length_map]
   exact Qw (SG _ _) (by rw [length_take];exact Nh _ _)
  ·rintro i v ys H' hi ⟨rfl,hDl,s'⟩
   have hit:i < ts.length:=by have:=(Qn.mp hi).1;rwa [length_map] at this
   have et:=getElem?_eq_getElem hit
   have ep:=getElem?_eq_getElem (show i < ps.length by omega)
   generalize ts[i]=ti at et
   generalize ps[i]=pi at ep
   have hv:V.ref ti=v:=by rw [getElem?_map,et] at hi;exact Qv hi
   subst hv
   have ez:(ts.zip ps)[i]?=some (ti,pi):=getElem?_zip_eq_some.mpr ⟨et,ep⟩
   have htup:=s' _ _ (hp i ti pi et ep)
   have hts:=ON (fun z:Addr×(Str×V)=>!decide (z.2.1=x)) (ts.zip ps) i (ti,pi) ez
   refine ⟨_,rfl,ti,_,_,_,rfl,rfl,SqT.of htup,rfl,_,rfl,rfl,_,rfl,?_⟩
   have edx:(!decide (V.str pi.1=V.str x))=!decide (pi.1=x):=by
    by_cases z:pi.1=x
    ·rw [z,decide_eq_true rfl,decide_eq_true rfl]
    ·rw [decide_eq_false z,decide_eq_false fun y=>z (V.str.inj y)]
   rw [edx]
   by_cases z:pi.1=x
   ·rw [decide_eq_true z]
    refine Yh ⟨?_,hDl,s'⟩
    rw [hts]
    show _=List.map _ (_++if (!decide (pi.1=x))=true then [(ti,pi)] else [])
    rw [decide_eq_true z]
    simp
   ·rw [decide_eq_false z]
    refine Yo ⟨_,rfl,hDl,?_,Zh,fun b u e=>by rw [Zi (Zp e hD)];exact s' _ _ e⟩
    rw [hts]
    show _=List.map _ (_++if (!decide (pi.1=x))=true then [(ti,pi)] else [])
    rw [decide_eq_false z]
    simp
  ·rintro ys H5 ⟨rfl,hD5,s5⟩
   rw [length_map,<- hzl,TN] at hD5
   have hlp:((ts.zip ps).filter fun z=>!decide (z.2.1=x)).map (·.2)=Wg ps x:=by
    unfold Wg
    conv=>rhs;rw [<- hzs]
    rw [List.filter_map];rfl
   have hlt:((ts.zip ps).filter fun z=>!decide (z.2.1=x)).map (fun z=>V.ref z.1)=(((ts.zip ps).filter fun z=>!decide (z.2.1=x)).map (·.1)).map V.ref:=by rw [map_map];rfl
   have s15:Same H H5:=s12.trans s5
   have hPT:PairT H5 (((ts.zip ps).filter fun z=>!decide (z.2.1=x)).map (·.1)) (Wg ps x):=by
    refine ⟨by rw [<- hlp,length_map,length_map],fun i b p e1 e2=>?_⟩
    rw [<- hlp,getElem?_map] at e2
    rw [getElem?_map] at e1
    cases ez:((ts.zip ps).filter fun z=>!decide (z.2.1=x))[i]? with
    | none=>rw [ez] at e1;cases e1
    | some z =>
     rw [ez] at e1 e2
     cases (show some z.1=some b from e1)
     cases (show some z.2=some p from e2)
     obtain ⟨j,hj⟩:=Jg.mp (mem_filter.mp (mem_of_getElem? ez)).1
     obtain ⟨h1,h2⟩:=getElem?_zip_eq_some.mp hj
     exact s5 _ _ (hp j _ _ h1 h2)
   refine ⟨_,rfl,_,.inl ⟨_,SqL.of hD5,rfl⟩,?_⟩
   by_cases W:Wg ps x=[]
   ·have:((ts.zip ps).filter fun z=>!decide (z.2.1=x))=[]:=by
     have:=congrArg List.length hlp
     rw [W,length_map] at this
     exact length_eq_zero_iff.mp this
    rw [this]
    exact Yh (q H5 nds 0 (S.keep s15) (NEx.refl _) (by omega) (Zhz d h0 W hF) (LamAt.same hL s15) (Same.kq s15) s15.tf)
   ·have G2:=G.but W
    have hne:(!(((ts.zip ps).filter fun z=>!decide (z.2.1=x)).map (fun z=>V.ref z.1)).isEmpty)=true:=by
     cases e:((ts.zip ps).filter fun z=>!decide (z.2.1=x)) with
     | nil=>rw [e] at hlp;exact absurd hlp.symm W
     | cons _ _=>rfl
    rw [hne]
    have S5:=S.keep s15
    obtain ⟨dx5,ob5⟩:=S5.ob
    refine Yo ⟨_,rfl,st,dx5,_,rfl,ob5,ZM Z dt (by decide +kernel) (by decide +kernel),_,rfl,D,_,Wg ps x,rfl,by rw [hD5,hlt],hPT,W,by have:=G2.few;omega,fun p hp=>N.len _ (G2.sub p hp),LamAt.same hL s15,fun a6 H6 p1 pr g6 L6 perm6 sort6 node6=>?_⟩
    have tb5:H5 Pl=some (.tbl tb):=s15 _ _ htb
    have tf6:TF H5 H6:=g6.tf tb5
    have S6:=S5.kq g6.kq tf6 hst hln hdt
    refine ⟨st,Z,dt,a6,nds,tabs,_,rfl,S6,node6,by omega,fun H7 S7 k7 tf7=>?_⟩
    have nl6:∃ xs,H6 Z=some (.lst xs):=by obtain ⟨as6,e6,_⟩:=S6.nl;exact ⟨_,e6⟩
    have hmk:Zz p1.1=Zz x:=(G2.perm perm6).mrk p1 mem_cons_self
    rw [hmk] at S7
    refine q H7 _ nds.length S7 (NEx.app nds _) (by rw [length_append];show nds.length+1<=_;omega) ?_ (L6.kq k7 fun b W=>by rw [mem_singleton.mp W];exact nl6) ?_ ((s15.tf.trans tf6).trans tf7)
    ·exact ZhK d hxr (by rw [getElem?_append_right (Qg _),Jb];rfl) G2 perm6 hF
    ·exact (Same.kq s15).trans ((g6.kq.sub fun b W=>by simp at W ⊢;exact .inr W).trans (k7.sub fun b W=>by simp at W ⊢;exact .inl W))
 ·refine Yh ?_
  refine ⟨_,rfl,a,_,rfl,hna.tf s1.tf,fun pt H2 s2 hpt=>⟨pt,_,rfl,.inr hpt,fun rl hrl1=>?_⟩⟩
  have s12:=s1.trans s2
  have J:H rl=none:=by
   cases e:H rl with
   | none=>rfl
   | some o=>rw [s12 _ _ e] at hrl1;cases hrl1
  refine ⟨_,rfl,x,rfl,N.len x hx,fun H3 s3=>⟨_,rfl,Zz x,lev,rfl,N.lo x hx,by omega,?_⟩⟩
  have el3:H3 rl=some (.lst (qs.map iN)):=s3 _ _ Zh
  have s13:Same H H3:=(s12.trans (Zm hrl1 _)).trans s3
  have S3:=S.keep s13
  have hdl:Yb (Zz x) lev < qs.length:=by rw [hq4];exact Uh _ _
  have hq1:=getElem?_eq_getElem hdl
  generalize qs[Yb (Zz x) lev]=q1 at hq1
  have hat:YK (qs.map iN) (Zz x / 4 ^ lev % 4)=some (iN q1):=by rw [<- Wp];exact ZJ (by rw [getElem?_map,hq1];rfl)
  obtain ⟨dx3,ob3⟩:=S3.ob
  refine ⟨_,rfl,st,dx3,_,rfl,ob3,ZM Z dt (by decide +kernel) (by decide +kernel),_,rfl,_,rfl,rl,_,_,_,rfl,rfl,SqL.of el3,hat,_,rfl,_,_,rfl,rfl,_,rfl,?_⟩
  refine ⟨st,Z,dt,nds,tabs,q1,lev+1,_,x,v0,Fm,rfl,S3,h0,hqs _ _ hq1,WU hrl (Uh _ _),by omega,hx,by rw [Wn,hxr,Xt (N.lo x hx)];rfl,hFx,by omega,LamAt.same hL s13,fun H5 B Y S5 ext5 len5 tri5 L5 kq5 tf5=>?_⟩
  have nrl:rl ∉ [Z,Pl]:=fun z=>by
   rcases mem_cons.mp z with z | z
   ·rw [z,nl] at J;cases J
   ·rw [mem_singleton.mp z,htb] at J;cases J
  have el5:=kq5 _ _ nrl el3
  have hix:Wz (qs.map iN).length (Zz x / 4 ^ lev % 4)=some (Yb (Zz x) lev):=by
   rw [<- Wp,length_map]
   unfold Wz
   rw [if_pos (by omega),if_pos (by omega)]
   rfl
  refine ⟨_,rfl,_,rfl,rl,_,_,_,rfl,rfl,el5,hix,?_⟩
  have tf6:=ZaL (o:=.lst ((qs.map iN).set (Yb (Zz x) lev) (iN Y))) el5
  have k6:Kq [rl] H5 (upd H5 rl (.lst ((qs.map iN).set (Yb (Zz x) lev) (iN Y)))):=Zau
  have nst:st ∉ [rl]:=fun z=>by rw [<- mem_singleton.mp z,ob] at J;cases J
  have nln:Z ∉ [rl]:=fun z=>by rw [<- mem_singleton.mp z,nl] at J;cases J
  have ndt:dt ∉ [rl]:=fun z=>by rw [<- mem_singleton.mp z,S.tb] at J;cases J
  have S6:=S5.kq k6 tf6 nst nln ndt
  have el6:upd H5 rl (.lst ((qs.map iN).set (Yb (Zz x) lev) (iN Y))) rl=some (.lst ((qs.set (Yb (Zz x) lev) Y).map iN)):=by rw [Zh,List.map_set]
  have L6:=L5.kq k6 fun b W=>by rw [mem_singleton.mp W];exact ⟨_,el5⟩
  have kh:Kq [Z,Pl] H (upd H5 rl (.lst ((qs.map iN).set (Yb (Zz x) lev) (iN Y)))):=fun b o nb e=>by
   rw [Zi (Zp e J)];exact kq5 _ _ nb (s13 _ _ e)
  generalize upd H5 rl (.lst ((qs.map iN).set (Yb (Zz x) lev) (iN Y)))=H6 at *
  have hps:∀ (i q:Nat),(qs.set (Yb (Zz x) lev) Y)[i]?=some q->Tri NS B (VN Fm x) d' (lev+1) (r+i * 4 ^ lev) q:=fun i q hi=>ZgX N hrl hx hxr hq4 hqs ext5 tri5 (fun y hy=>if_neg hy) i q hi
  have hp4:(qs.set (Yb (Zz x) lev) Y).length=4:=by rw [length_set,hq4]
  generalize qs.set (Yb (Zz x) lev) Y=qn at *
  have h05:=ext5 _ _ h0
  have tfh:TF H H6:=(s13.tf.trans tf5).trans tf6
  refine ⟨_,rfl,rl,rfl,⟨_,SqL.of el6⟩,fun D hD=>?_⟩
  refine Zfd (K:=K) (a:=rl) (xs:=qn.map iN) (by rw [length_map,hp4];decide)
   (fun i ys H'=>ys=((qn.take i).filter fun p=>!decide (p=0)).map iN/\H' D=some (.lst ys)/\Same H6 H') ⟨rfl,Zh,Zm hD _⟩ ?_ ?_ ?_
  ·rintro i ys H' ⟨rfl,_,s'⟩
   refine ⟨?_,SqL.of (s' _ _ el6)⟩
   rw [length_map]
   exact Qw (SG _ _) (by rw [length_take];exact Nh _ _)
  ·rintro i v ys H' hi ⟨rfl,hDl,s'⟩
   have hit:i < qn.length:=by have:=(Qn.mp hi).1;rwa [length_map] at this
   have et:=getElem?_eq_getElem hit
   generalize qn[i]=qi at et
   have hv:iN qi=v:=by rw [getElem?_map,et] at hi;exact Qv hi
   subst hv
   have hts:=ON (fun p:Nat=>!decide (p=0)) qn i qi et
   refine ⟨_,rfl,rfl,_,rfl,?_⟩
   have edx:(!decide (iN qi=V.int 0))=!decide (qi=0):=by
    by_cases z:qi=0
    ·rw [z];rfl
    ·rw [decide_eq_false z,decide_eq_false fun y=>z (by have:=V.int.inj y;omega)]
   rw [edx]
   by_cases z:qi=0
   ·rw [decide_eq_true z]
    refine Yh ⟨?_,hDl,s'⟩
    rw [hts]
    show _=List.map _ (_++if (!decide (qi=0))=true then [qi] else [])
    rw [decide_eq_true z]
    simp
   ·rw [decide_eq_false z]
    refine Yo ⟨_,rfl,hDl,?_,Zh,fun b u e=>by rw [Zi (Zp e hD)];exact s' _ _ e⟩
    rw [hts]
    show _=List.map _ (_++if (!decide (qi=0))=true then [qi] else [])
    rw [decide_eq_false z]
    simp
  ·rintro ys H7 ⟨rfl,hD7,s7⟩
   rw [length_map,TN] at hD7
   generalize hfl:(qn.filter fun p=>!decide (p=0))=fl at hD7
   have S7:=S6.keep s7
   refine ⟨_,rfl,D,_,rfl,.inl (SqL.of hD7),rfl,_,rfl,?_⟩
   by_cases h1:fl.length=1
   ·obtain ⟨q8,rfl⟩:∃ q8,fl=[q8]:=by
     cases fl with
     | nil=>cases h1
     | cons b t=>cases t with
      | nil=>exact ⟨b,rfl⟩
      | cons _ _=>simp at h1
    obtain ⟨i8,hi8,hq80,_⟩:=ZaW hfl
    obtain ⟨n8,hn8,_⟩:=UI (hps i8 q8 hi8)
    obtain ⟨as8,a8,nl8,ha8,hna8⟩:=S7.node hn8
    obtain ⟨dx8,ob8⟩:=S7.ob
    refine Yo ⟨_,rfl,st,C,dx8,_,_,rfl,ob8,TC.cl,TC.nN,Xo Z dt,_,rfl,D,_,_,_,rfl,rfl,SqL.of hD7,(show YK ([q8].map iN) ((0:Nat):Int)=some (iN q8) from ZJ rfl),Z,_,_,_,rfl,rfl,SqL.of nl8,ZJ (by rw [getElem?_map,ha8];rfl),a8,n8,rfl,hna8,fun pt9 H9 s9 hpt9=>?_⟩
    obtain ⟨o9,ts9,ept9,_,hl9,_⟩:=hpt9
    refine ⟨_,.inr (.inl ⟨_,.inl (.inr ⟨o9,ept9⟩),rfl⟩),?_⟩
    have I:=s7.trans s9
    cases n8 with
    | leaf m8 ps8 =>
     have hne:(!(ts9.map V.ref).isEmpty)=true:=by
      cases ts9 with
      | nil =>
       have hE:TriE NS B (VN Fm x) (lev+1) (r+i8 * 4 ^ lev) q8:=by
        have:=hps i8 q8 hi8
        cases d' with
        | zero=>exact this
        | succ d' =>
         rcases this with h | ⟨qs',h,_⟩
         ·exact h
         ·rw [hn8] at h;cases h
       rcases hE with ⟨z,_⟩ | ⟨m',ps',e,G,_⟩
       ·exact absurd z hq80
       ·rw [hn8] at e;cases e
        exact absurd (length_eq_zero_iff.mp (show ps8.length=0 from hl9.symm)) G.ne
      | cons _ _=>rfl
     rw [hne]
     refine Yo ⟨_,rfl,D,_,_,_,rfl,rfl,SqL.of (s9 _ _ hD7),(show YK ([q8].map iN) ((0:Nat):Int)=some (iN q8) from ZJ rfl),?_⟩
     exact q H9 B q8 (S6.keep I) ext5 (by omega) (ZkX N h05 hrl hp4 hps hfl hn8) (LamAt.same L6 I) (kh.trans (Same.kq I)) (tfh.trans I.tf)
    | bare =>
     rw [length_eq_zero_iff.mp (show ts9.length=0 from hl9)]
     refine Yh ?_
     obtain ⟨dxA,obA⟩:=(S6.keep I).ob
     refine ⟨_,rfl,st,dxA,_,rfl,obA,ZM Z dt (by decide +kernel) (by decide +kernel),_,rfl,rl,qn,rfl,I _ _ el6,hp4,fun aB HB sB nodeB=>?_⟩
     have SB:=(S6.keep I).keep sB
     refine ⟨st,Z,dt,aB,B,tabs,_,rfl,SB,nodeB,by omega,fun HC SC kC tfC=>?_⟩
     have nlB:∃ xs,HB Z=some (.lst xs):=by obtain ⟨asB,eB,_⟩:=SB.nl;exact ⟨_,eB⟩
     refine q HC _ B.length SC (ext5.trans (NEx.app B _)) (by rw [length_append];show B.length+1<=_;omega) ?_ ((LamAt.same (LamAt.same L6 I) sB).kq kC fun b W=>by rw [mem_singleton.mp W];exact nlB) ?_ (((tfh.trans I.tf).trans sB.tf).trans tfC)
     ·exact Zam (by rw [getElem?_append_right (Qg _),Jb];rfl) hp4 fun i q hi=>Tri.mono d' (hps i q hi) (NEx.app B _)
     ·exact ((kh.trans (Same.kq I)).trans (Same.kq sB)).trans (kC.sub fun b W=>by simp at W ⊢;exact .inl W)
    | fork qs8 =>
     rw [length_eq_zero_iff.mp (show ts9.length=0 from hl9)]
     refine Yh ?_
     obtain ⟨dxA,obA⟩:=(S6.keep I).ob
     refine ⟨_,rfl,st,dxA,_,rfl,obA,ZM Z dt (by decide +kernel) (by decide +kernel),_,rfl,rl,qn,rfl,I _ _ el6,hp4,fun aB HB sB nodeB=>?_⟩
     have SB:=(S6.keep I).keep sB
     refine ⟨st,Z,dt,aB,B,tabs,_,rfl,SB,nodeB,by omega,fun HC SC kC tfC=>?_⟩
     have nlB:∃ xs,HB Z=some (.lst xs):=by obtain ⟨asB,eB,_⟩:=SB.nl;exact ⟨_,eB⟩
     refine q HC _ B.length SC (ext5.trans (NEx.app B _)) (by rw [length_append];show B.length+1<=_;omega) ?_ ((LamAt.same (LamAt.same L6 I) sB).kq kC fun b W=>by rw [mem_singleton.mp W];exact nlB) ?_ (((tfh.trans I.tf).trans sB.tf).trans tfC)
     ·exact Zam (by rw [getElem?_append_right (Qg _),Jb];rfl) hp4 fun i q hi=>Tri.mono d' (hps i q hi) (NEx.app B _)
     ·exact ((kh.trans (Same.kq I)).trans (Same.kq sB)).trans (kC.sub fun b W=>by simp at W ⊢;exact .inl W)
   ·have hd1:decide (V.int (((fl.map iN).length:Nat):Int)=V.int 1)=false:=decide_eq_false fun z=>h1 (by have:=V.int.inj z;rw [length_map] at this;omega)
    rw [hd1]
    have I:=s7
    refine Yh (Yh ?_)
    obtain ⟨dxA,obA⟩:=(S6.keep I).ob
    refine ⟨_,rfl,st,dxA,_,rfl,obA,ZM Z dt (by decide +kernel) (by decide +kernel),_,rfl,rl,qn,rfl,I _ _ el6,hp4,fun aB HB sB nodeB=>?_⟩
    have SB:=(S6.keep I).keep sB
    refine ⟨st,Z,dt,aB,B,tabs,_,rfl,SB,nodeB,by omega,fun HC SC kC tfC=>?_⟩
    have nlB:∃ xs,HB Z=some (.lst xs):=by obtain ⟨asB,eB,_⟩:=SB.nl;exact ⟨_,eB⟩
    refine q HC _ B.length SC (ext5.trans (NEx.app B _)) (by rw [length_append];show B.length+1<=_;omega) ?_ ((LamAt.same (LamAt.same L6 I) sB).kq kC fun b W=>by rw [mem_singleton.mp W];exact nlB) ?_ (((tfh.trans I.tf).trans sB.tf).trans tfC)
    ·exact Zam (by rw [getElem?_append_right (Qg _),Jb];rfl) hp4 fun i q hi=>Tri.mono d' (hps i q hi) (NEx.app B _)
    ·exact ((kh.trans (Same.kq I)).trans (Same.kq sB)).trans (kC.sub fun b W=>by simp at W ⊢;exact .inl W)
theorem Zei {f:Addr}{fd:Qi}(N:Yj NS)(F:Fun K "taken_from" "Store.taken_from" c_Store_taken_from f fd)(T:Txt K mg)(z:YG K C)
 (Z:Def P w K mg base 1 "has_mark" ["node","number"] (Vp K)) (G:Def P w K mg base 1 "parts_in" ["node"] (Ws K)) (Y:Def P w K mg base 1 "pairs_in" ["node"] (Xp K)) (B:Def P w K mg base 1 "mark" ["name"] WA) (J:Def P w K mg base 1 "digit" ["number","level"] Wd)
 (I:Def P w K mg base 2 "leaf_of" ["pairs"] (Vk K Pl YH)) (W:Def P w K mg base 1 "fork_of" ["parts"] (WQ K)) (S:DefM P w K mg base 1 C "keep" ["self","node"] (VA K C))
 (b:Binds K fd nTk []) (mt:Us K C "taken_from" f):∀ d,FnOk P w K mg base ZH (2+d) f fd nTk (ZaZ K C Pl NS d)
 | 0=>F.ok scTk (fun _ _ _ _ h=>h.elim) (fun _ _ _ _ _ _ _ _ _ h=>h.elim)
 | d+1=>ZlJ N (Jr 2 d) F T z Z G Y B J I W S ⟨f,fd,Zei N F T z Z G Y B J I W S b mt d,b,mt⟩
def spWo (K:Qa)(C Pl:Addr)(NS:List Str):Sp:=fun vs H Q _=>∃(st ln dt:Addr)(nds:List Nd)(tabs:List (Zn×V))(t:Nat)(x:Str)(F:Str->Option V),vs=[.ref st,iN t,.str x]/\StoreAt K C st ln dt H nds tabs/\nds[0]?=some .bare/\(ZS tabs (QO (t:Int))).isSome=true/\Tri NS nds F 5 0 0 t/\x∈NS/\(∀ u,F x=some u->ValV u)/\nds.length+6<=100000/\tabs.length<=100000/\LamAt H Pl YH Xx /\
 ∀ (H':Hp) (nds':List Nd) (tabs':List (Zn×V)) (t':Nat),StoreAt K C st ln dt H' nds' tabs'->NEx nds nds'->nds'.length<=nds.length+6->tabs'.length<=tabs.length+1->(∀ k,(ZS tabs k).isSome=true->(ZS tabs' k).isSome=true)->(ZS tabs' (QO (t':Int))).isSome=true->Tri NS nds' (VN F x) 5 0 0 t'->LamAt H' Pl YH Xx->Kq [ln,dt,Pl] H H'->TF H H'->Q (iN t') H'
theorem scWo:Zo ["self","table","name"] ["self","table","name"] (Zj c_Store_without):=⟨rfl,rfl,rfl,by decide +kernel,rfl,by decide +kernel,by decide +kernel⟩
theorem ZmB {f:Addr}{fd:Qi}(N:Yj NS)(F:Fun K "without" "Store.without" c_Store_without f fd)(TC:YG K C)(DLk:DefM P w K mg base 3 C "looked" ["self","table","name"] (WW K C))
 (DAs:DefM P w K mg base 1 C "as_table" ["self","number"] (Zfb K C)) (DI:DefM P w K mg base 8 C "taken_from" nTk (ZaZ K C Pl NS 6)):FnOk P w K mg base ZH 9 f fd ["self","table","name"] (spWo K C Pl NS):=by
 refine F.ok scWo (fun vs H Q E h=>?_) (fun cdv A outer s H vs Q E hr h=>?_)
 ·obtain ⟨st,Z,W,nds,B,t,x,F,rfl,_⟩:=h;rfl
 obtain ⟨st,Z,W,nds,B,t,x,Fm,rfl,S,h0,Y,G,hx,hFv,hlen,htl,hL,q⟩:=h
 have hr1:=hr.mono (show 1<=8 by decide)
 have hr3:=hr.mono (show 3<=8 by decide)
 refine' ⟨?t,?h,?r⟩
 case h =>
  conv=>arg 2;whnf
  with_reducible refine' Zd (ZL ?a1 (Zf ?a2) ZV) (Zf ?a3)
  case a1=>exact WB (Zdu (Yc DLk TC.cl hr3 (pv 0) (Zb (pv 1) (Zb (pv 2) Za))))
  case a2=>exact Zl (pv 1)
  case a3=>exact Zl (Yc DAs TC.cl hr1 (pv 0) (Zb (Yc DI TC.cl hr (pv 0) (Zb (pv 1) (Zb Ze (Zb (pv 2) Za)))) Za))
 obtain ⟨dx,ob⟩:=S.ob
 obtain ⟨ws,e,n,e1,e2,e3,e4,e5⟩:=UQ N G hx
 refine ⟨_,rfl,st,dx,_,rfl,ob,ZM Z W (by decide +kernel) (by decide +kernel),_,rfl,_,rfl,st,Z,W,nds,B,t,x,6,ws,e,n,rfl,S,Y,N.len x hx,N.lo x hx,by decide,e1,e2,e3,e4,fun H1 s1=>?_⟩
 rw [e5]
 refine ⟨_,rfl,?_⟩
 have S1:=S.keep s1
 have hL1:=LamAt.same hL s1
 cases eF:Fm x with
 | none =>
  refine Yo ⟨_,rfl,q H1 nds B t S1 (NEx.refl _) (by omega) (by omega) (fun _ h=>h) Y (Tri.congr 5 (by decide) G fun y _ _=>?_) hL1 (Same.kq s1) s1.tf⟩
  unfold VN
  by_cases z:y=x
  ·rw [if_pos z,z,eF]
  ·rw [if_neg z]
 | some u =>
  have hc:decide ((some u).getD .non=V.non)=false:=decide_eq_false (hFv u eF).ne
  rw [hc]
  obtain ⟨dx1,ob1⟩:=S1.ob
  refine Yh ⟨_,rfl,st,dx1,_,rfl,ob1,ZM Z W (by decide +kernel) (by decide +kernel),_,rfl,st,dx1,_,rfl,ob1,ZM Z W (by decide +kernel) (by decide +kernel),_,rfl,_,rfl,?_⟩
  refine ⟨st,Z,W,nds,B,t,0,0,x,u,Fm,rfl,S1,h0,G,by decide,rfl,hx,by rw [Os,OW],eF,hlen,hL1,fun H2 J I S2 ext2 len2 tri2 L2' kq2 tf2=>?_⟩
  refine ⟨st,Z,W,J,B,I,rfl,S2,by omega,fun H3 S3 k3 tf3=>?_⟩
  refine q H3 J _ I S3 ext2 len2 (XB _ _ _) (fun k hk=>?_) (by rw [WX,if_pos rfl];rfl) tri2 ?_ ?_ ((s1.tf.trans tf2).trans tf3)
  ·rw [WX]
   by_cases z:k=QO (I:Int)
   ·rw [if_pos z];rfl
   ·rw [if_neg z];exact hk
  ·have hdl:∀ b∈[W],∃ xs,H2 b=some (.dK xs):=fun b hb=>by rw [mem_singleton.mp hb];exact ⟨_,S2.tb⟩
   rcases L2' with h | ⟨c,h,h2⟩
   ·exact .inl (k3 _ _ (fun z=>by obtain ⟨_,e⟩:=hdl _ z;rw [h] at e;cases e) h)
   ·exact .inr ⟨c,k3 _ _ (fun z=>by obtain ⟨_,e⟩:=hdl _ z;rw [h] at e;cases e) h,k3 _ _ (fun z=>by obtain ⟨_,e⟩:=hdl _ z;rw [h2] at e;cases e) h2⟩
  ·exact ((Same.kq s1).trans (kq2.sub fun b hb=>by simp at hb ⊢;rcases hb with z | z;exact .inl z;exact .inr (.inr z))).trans (k3.sub fun b hb=>by simp at hb ⊢;exact .inr (.inl hb))
end
section
variable {P:Qj}{w:Qr}{K:Qa}{mg:Str->Option Qb}{base:Heap}{C Pl:Addr}{NS:List Str}
abbrev Xh:Yv:=ZcV YH Xx
def Zdk (K:Qa)(C Pl:Addr):Sp:=fun vs H Q _=>∃(NS:List Str)(st:Addr)(nds:List Nd)(tabs:List (Zn×V))(t:Nat)(x:Str)(v:V)(F:Str->Option V)(Δ:Rs),Yj NS/\vs=[.ref st,iN t,.str x,v]/\Sep ((st,Wb K C nds tabs)::(Pl,Xh)::Δ) H/\(ZS tabs (QO (t:Int))).isSome=true/\Tri NS nds F 5 0 0 t/\x∈NS/\ValV v/\(∀ u,F x=some u->ValV u)/\nds.length+6<=100000/\tabs.length<=100000 /\
 ∀ (H':Hp) (nds':List Nd) (tabs':List (Zn×V)) (t':Nat),Sep ((st,Wb K C nds' tabs')::(Pl,Xh)::Δ) H'->NEx nds nds'->nds'.length<=nds.length+6->tabs'.length<=tabs.length+1->(∀ k,(ZS tabs k).isSome=true->(ZS tabs' k).isSome=true)->(ZS tabs' (QO (t':Int))).isSome=true->Tri NS nds' (upF F x v) 5 0 0 t'->Q (iN t') H'
def ZeU (K:Qa)(C Pl:Addr):Sp:=fun vs H Q _=>∃(NS:List Str)(st:Addr)(nds:List Nd)(tabs:List (Zn×V))(t:Nat)(x:Str)(F:Str->Option V)(Δ:Rs),Yj NS/\vs=[.ref st,iN t,.str x]/\Sep ((st,Wb K C nds tabs)::(Pl,Xh)::Δ) H/\(ZS tabs (QO (t:Int))).isSome=true/\Tri NS nds F 5 0 0 t/\x∈NS/\(∀ u,F x=some u->ValV u)/\nds.length+6<=100000/\tabs.length<=100000 /\
 ∀ (H':Hp) (nds':List Nd) (tabs':List (Zn×V)) (t':Nat),Sep ((st,Wb K C nds' tabs')::(Pl,Xh)::Δ) H'->NEx nds nds'->nds'.length<=nds.length+6->tabs'.length<=tabs.length+1->(∀ k,(ZS tabs k).isSome=true->(ZS tabs' k).isSome=true)->(ZS tabs' (QO (t':Int))).isSome=true->Tri NS nds' (VN F x) 5 0 0 t'->Q (iN t') H'
theorem Znf {f:Addr}{fd:Qi}{k:Nat}{ps:List Str}(h:∀ NS,Yj NS->FnOk P w K mg base ZH k f fd ps (Zjp K C Pl NS)):FnOk P w K mg base ZH k f fd ps (Zdk K C Pl) :=
 (FnOk.ex h).conv fun vs H Q E ⟨NS,st,nds,B,t,x,v,F,Δ,N,e,S,h1,h2,h3,W,h5,h6,J,q⟩=>by
  obtain ⟨Y,Z,SA,b0,L,G⟩:=S.stoLam
  exact ⟨NS,N,st,Y,Z,nds,B,t,x,v,F,e,SA,b0,h1,h2,h3,W,h5,h6,J,L,fun H' nds' z t' S' ext len tl mono tok I L' kq tf=>q H' nds' z t' (G H' nds' z S' (ext _ _ b0) L' kq) ext len tl mono tok I⟩
theorem wo_S {f:Addr}{fd:Qi}{k:Nat}{ps:List Str}(h:∀ NS,Yj NS->FnOk P w K mg base ZH k f fd ps (spWo K C Pl NS)):FnOk P w K mg base ZH k f fd ps (ZeU K C Pl) :=
 (FnOk.ex h).conv fun vs H Q E ⟨NS,st,nds,B,t,x,F,Δ,N,e,S,h1,h2,Z,J,h5,h6,q⟩=>by
  obtain ⟨W,Y,SA,b0,L,G⟩:=S.stoLam
  exact ⟨NS,N,st,W,Y,nds,B,t,x,F,e,SA,b0,h1,h2,Z,J,h5,h6,L,fun H' nds' z t' S' ext len tl mono tok I L' kq tf=>q H' nds' z t' (G H' nds' z S' (ext _ _ b0) L' kq) ext len tl mono tok I⟩
def Zbz (K:Qa)(C:Addr):Sp:=fun vs H Q _=>∃(p dx:Addr)(H0:Hp)(Δ:Rs),vs=[.ref p]/\H=upd (upd H0 dx (.own p)) p (.ins C dx [])/\H0 p=none/\H0 dx=none/\dx≠p/\Sep Δ H0/\∀ H',Same H0 H'->Sep ((p,Wb K C [.bare] [(QO 0,.bl true)])::Δ) H'->Q .non H'
theorem Zmh {vs:List V}{H:Hp}{Q:VK}{E:XK}(h:Zbz K C vs H Q E):ZgM K C vs H Q E:=by
 obtain ⟨p,dx,J,Δ,e,rfl,h1,h2,h3,S,q⟩:=h
 refine ⟨p,dx,e,Zh,fun ln dt H' I hdt Z kq=>?_⟩
 have G:Same J (upd (upd J dx (.own p)) p (.ins C dx [])):=(Zm h2 _).trans (Zm (by rw [Zi h3.symm];exact h1) _)
 have s0:Same J H':=fun b o e=>kq b o (by simp only [mem_singleton];exact Zp e h1) (G b o e)
 refine q H' s0 ?_
 have n1:=YQ G I
 have n2:=YQ G hdt
 obtain ⟨W,ob⟩:=Z.ob
 obtain ⟨as,nl,B,Y⟩:=Z.nl
 refine ⟨some_of H' [p,ln,dt],Wf,⟨rfl,ln,dt,⟨⟨W,by rw [XQ (by simp)];exact ob⟩,⟨as,by rw [XQ (by simp)];exact nl,B,fun i a n e1 e2=>(Y i a n e1 e2).tf Zep⟩,by rw [XQ (by simp)];exact Z.tb⟩⟩,S.mono fun b o e=>cut_some.mpr ⟨s0 _ _ e,fun u z=>?_⟩⟩
 cases m:Yx u with
 | false=>rfl
 | true =>
  have:=XI z m
  simp only [mem_cons,not_mem_nil,or_false] at this
  rcases this with z | z | z
  ·exact absurd z (Zp e h1)
  ·exact absurd z (Zp e n1)
  ·exact absurd z (Zp e n2)
def Zcz (K:Qa)(C:Addr):Sp:=fun vs H Q _=>∃(st:Addr)(nds:List Nd)(tabs:List (Zn×V)),vs=[.ref st]/\Wb K C nds tabs st H/\Q (.int (nds.length:Int)) H
theorem scMd:Zo ["self"] ["self"] (Zj c_Store_made):=⟨rfl,rfl,rfl,by decide +kernel,rfl,by decide +kernel,by decide +kernel⟩
theorem ZjR {f:Addr}{fd:Qi}(F:Fun K "made" "Store.made" c_Store_made f fd)(T:Txt K mg)(B:YG K C):FnOk P w K mg base ZH 1 f fd ["self"] (Zcz K C):=by
 refine F.ok scMd (fun vs H Q E h=>?_) (fun Y A outer s H vs Q E Z h=>?_)
 ·obtain ⟨st,nds,z,rfl,_⟩:=h;rfl
 obtain ⟨st,nds,z,rfl,⟨b0,G,W,⟨⟨dx,I⟩,⟨as,J,S,hn⟩,tb⟩⟩,q⟩:=h
 refine ⟨_,Zf (Zl (Zv Zy rfl T.len QB (Zb (ZC (pv 0) rfl) Za))),?_⟩
 refine ⟨_,rfl,st,C,dx,_,_,rfl,I,B.cl,B.nN,Xo G W,G,_,rfl,.inl (SqL.of J),?_⟩
 rw [length_map,S];exact q
def ZeH (K:Qa)(C:Addr):Sp:=fun vs H Q _=>∃ v,vs=[v]/\Q (.int 0) H
theorem scEm:Zo ["self"] ["self"] (Zj c_Store_empty):=⟨rfl,rfl,rfl,by decide +kernel,rfl,by decide +kernel,by decide +kernel⟩
theorem ZhE {f:Addr}{fd:Qi}(F:Fun K "empty" "Store.empty" c_Store_empty f fd)(T:Txt K mg):FnOk P w K mg base ZH 1 f fd ["self"] (ZeH K C):=by
 refine F.ok scEm (fun vs H Q E h=>?_) (fun B A outer s H vs Q E G h=>?_)
 ·obtain ⟨v,rfl,_⟩:=h;rfl
 obtain ⟨v,rfl,q⟩:=h
 obtain ⟨I,z⟩:=T.zero
 exact ⟨_,Zf (Zl (ZT rfl z (v:=.int 0) ⟨_,rfl⟩)),q⟩
end
def PsOf (NS:List Str)(F:Str->Option V)(lev r:Nat)(ps:List (Str×V)):Prop:=(ps.map (·.1)).Nodup/\∀ x v,(x,v)∈ps↔x∈NS/\YL x % 4 ^ lev=r/\F x=some v
def PsTo (NS:List Str)(F:Str->Option V)(lev r i:Nat)(ps:List (Str×V)):Prop:=(ps.map (·.1)).Nodup/\∀ x v,(x,v)∈ps↔x∈NS/\YL x % 4 ^ lev=r/\YL x / 4 ^ lev % 4 < i/\F x=some v
theorem key_mem {ps:List (Str×V)}{x:Str}:x∈ps.map (·.1)↔∃ v,(x,v)∈ps:=by
 rw [mem_map]
 exact ⟨fun ⟨⟨a,v⟩,h,e⟩=>⟨v,by cases e;exact h⟩,fun ⟨v,h⟩=>⟨_,h,rfl⟩⟩
section
variable {NS:List Str}{F:Str->Option V}{lev r:Nat}
theorem PsTo.zero:PsTo NS F lev r 0 []:=⟨JN,fun x v=>⟨(fun h=>nomatch h),fun h=>absurd h.2.2.1 (Nat.not_lt_zero _)⟩⟩
theorem PsTo.step {i:Nat}{ps qs:List (Str×V)}(h:PsTo NS F lev r i ps)(J:r < 4 ^ lev)(g:PsOf NS F (lev+1) (r+i * 4 ^ lev) qs):PsTo NS F lev r (i+1) (ps++qs):=by
 have G:∀ {n:Nat},n % 4 ^ (lev+1)=r+i * 4 ^ lev↔n % 4 ^ lev=r/\n / 4 ^ lev % 4=i:=fun {n}=>⟨fun z=>XS J z,fun ⟨Z,z2⟩=>by rw [Wn,Z,z2]⟩
 refine ⟨?_,fun x v=>?_⟩
 ·rw [map_append,Tj]
  refine ⟨h.1,g.1,fun a S b W e=>?_⟩
  subst e
  obtain ⟨u,hu⟩:=key_mem.mp S
  obtain ⟨v,Y⟩:=key_mem.mp W
  have h1:=((h.2 _ _).mp hu).2.2.1
  have h2:=(G.mp ((g.2 _ _).mp Y).2.1).2
  omega
 ·rw [mem_append,h.2,g.2,G]
  constructor
  ·rintro (⟨h1,h2,I,B⟩ | ⟨h1,⟨h2,I⟩,B⟩)
   ·exact ⟨h1,h2,by omega,B⟩
   ·exact ⟨h1,h2,by omega,B⟩
  ·rintro ⟨h1,h2,I,B⟩
   by_cases z:YL x / 4 ^ lev % 4 < i
   ·exact .inl ⟨h1,h2,z,B⟩
   ·exact .inr ⟨h1,⟨h2,by omega⟩,B⟩
theorem PsTo.done {ps:List (Str×V)}(h:PsTo NS F lev r 4 ps):PsOf NS F lev r ps :=
 ⟨h.1,fun x v=>by rw [h.2];exact ⟨fun ⟨a,b,_,c⟩=>⟨a,b,c⟩,fun ⟨a,b,c⟩=>⟨a,b,Nat.mod_lt _ (by decide),c⟩⟩⟩
theorem ZgE (h:∀ x∈NS,YL x % 4 ^ lev=r->F x=none):PsOf NS F lev r []:=⟨JN,fun x v=>⟨(fun h=>nomatch h),fun ⟨a,b,c⟩=>by rw [h x a b] at c;cases c⟩⟩
theorem Zga {m:Int}{ps:List (Str×V)}(G:LeafG NS m ps)(I:m.toNat % 4 ^ lev=r)(B:∀ x∈NS,YL x % 4 ^ lev=r->F x=lk ps x):PsOf NS F lev r ps:=by
 refine ⟨G.nd,fun x v=>⟨fun h=>?_,fun ⟨h1,h2,z⟩=>?_⟩⟩
 ·have h1:=G.sub _ h
  have h2:YL x % 4 ^ lev=r:=by unfold YL;rw [G.mrk _ h];exact I
  exact ⟨h1,h2,by rw [B x h1 h2];exact (WY G.nd).mpr h⟩
 ·rw [B x h1 h2] at z
  exact (WY G.nd).mp z
theorem PsOf.few {ps:List (Str×V)}(h:PsOf NS F lev r ps):ps.length<=NS.length:=by
 have:=ZbA h.1 (N:=NS) fun x B=>by obtain ⟨v,z⟩:=key_mem.mp B;exact ((h.2 _ _).mp z).1
 rwa [length_map] at this
end
section
variable {P:Qj}{w:Qr}{K:Qa}{mg:Str->Option Qb}{base:Heap}{C Pp:Addr}{NS:List Str}
def Zdp (K:Qa)(C:Addr)(NS:List Str):Nat->Sp
 | 0=>fun _ _ _ _=>False
 | d+1=>fun vs H Q _=>∃ (st ln dt:Addr) (nds:List Nd) (tabs:List (Zn×V)) (num lev r:Nat) (F:Str->Option V),vs=[.ref st,iN num]/\StoreAt K C st ln dt H nds tabs/\Tri NS nds F d lev r num/\r < 4 ^ lev /\
  ∀ (l:Addr) (H':Hp) (ts:List Addr) (ps:List (Str×V)),H l=none->Same H H'->H' l=some (.lst (ts.map V.ref))->PairT H' ts ps->PsOf NS F lev r ps->Q (.ref l) H'
theorem Zgq {H:Hp}{ts us:List Addr}{ps qs:List (Str×V)}(h:PairT H ts ps)(g:PairT H us qs):PairT H (ts++us) (ps++qs):=by
 refine ⟨by rw [length_append,length_append,h.1,g.1],fun i a p e1 z=>?_⟩
 by_cases hi:i < ts.length
 ·rw [getElem?_append_left hi] at e1
  rw [getElem?_append_left (by rw [<- h.1];exact hi)] at z
  exact h.2 i a p e1 z
 ·rw [getElem?_append_right (by omega)] at e1
  rw [getElem?_append_right (by rw [<- h.1];omega),<- h.1] at z
  exact g.2 _ a p e1 z
abbrev nPB:List Str:=["self","number","node","told","part"]
abbrev Zaj:List Str:=["self","number"]
theorem scPB:Zo nPB Zaj (Zj c_Store_pairs_below):=⟨rfl,rfl,rfl,by decide +kernel,rfl,by decide +kernel,by decide +kernel⟩
theorem ZmD {f:Addr}{fd:Qi}{d k:Nat}(N:Yj NS)(hk:1<=k)(F:Fun K "pairs_below" "Store.pairs_below" c_Store_pairs_below f fd)(T:Txt K mg)(TC:YG K C)
 (DR:Def P w K mg base 1 "pairs_in" ["node"] (Xp K)) (DP:Def P w K mg base 1 "parts_in" ["node"] (Ws K))
 (B:DefM P w K mg base k C "pairs_below" Zaj (Zdp K C NS d)):FnOk P w K mg base ZH (k+1) f fd Zaj (Zdp K C NS (d+1)):=by
 refine F.ok scPB (fun vs H Q E h=>?_) (fun cdv A outer s H vs Q E hr h=>?_)
 ·obtain ⟨st,ln,dt,nds,tabs,num,lev,r,F,rfl,_⟩:=h;rfl
 obtain ⟨st,ln,dt,nds,tabs,num,lev,r,Fm,rfl,S,I,hrl,q⟩:=h
 have hr1:=hr.mono hk
 refine' ⟨?t,?h,?r⟩
 case h =>
  conv=>arg 2;whnf
  with_reducible refine' (Zd ?h1 (Zd ?h2 (Zd (Wy ?h3 ?h4 ?h5 ?h6 (Zf ?h7) ?h8) (Zf ?h9))))
  case h1=>exact Zt (i:=2) scPB.nd rfl (Qy rfl) (Zr Zx (ZC (pv 0) rfl) (pv 1) (fun _ _=>rfl))
  case h2=>exact Zt (i:=3) scPB.nd rfl (Qy rfl) (YB Ud rfl T.list (by decide +kernel) (Zb (ZD DR hr1 (Zb (pv 2) Za)) Za))
  case h3=>exact Gb
  case h4=>exact rfl
  case h5=>exact ZcF (ZD DP hr1 (Zb (pv 2) Za))
  case h6=>exact Ya (i:=4) scPB.nd rfl (Qy rfl)
  case h7=>exact ZA (Yz Qx Tv Tw ZbM (pv 3) (Zb (Yc B TC.cl hr (pv 0) (Zb (pv 4) Za)) Za))
  case h8=>exact fun _=>rfl
  case h9=>exact Zl (pv 3)
 try dsimp only [ZN,Cx.nox]
 refine zs4 ?_
 intro zD zS zN3 zN2 zN1
 obtain ⟨n,Y,_⟩:=UI I
 obtain ⟨as,a,nl,ha,hna⟩:=S.node Y
 obtain ⟨dx,ob⟩:=S.ob
 refine ⟨_,rfl,st,C,dx,_,_,rfl,ob,TC.cl,TC.nN,Xo ln dt,_,rfl,ln,_,_,_,rfl,rfl,SqL.of nl,ZJ (by rw [getElem?_map,ha];rfl),?_⟩
 refine ⟨_,rfl,a,n,rfl,hna,fun pt H1 s1 hpt=>?_⟩
 obtain ⟨o,ts,ept,hod,hPT⟩:=hpt
 refine ⟨pt,_,rfl,.inr (.inl (.inr ⟨o,ept⟩)),fun l hl=>?_⟩
 have hlH:H l=none:=YQ s1 hl
 have s2:=Zm hl (.lst (ts.map V.ref))
 refine ⟨_,rfl,a,n,rfl,hna.tf (s1.trans s2).tf,fun pa H3 s3 hpa=>?_⟩
 have s03:Same H H3:=(s1.trans s2).trans s3
 refine ⟨pa,rfl,⟨_,hpa⟩,?_⟩
 have hlen:∀ {lev' r':Nat} {ps:List (Str×V)},PsOf NS Fm lev' r' ps->ps.length<=63:=fun h=>by have:=h.few;have:=N.few;omega
 have ends:n.parts=[]->PsOf NS Fm lev r n.pairs:=fun z=>by
  have e:TriE NS nds Fm lev r num->PsOf NS Fm lev r n.pairs:=fun g=>by
   rcases g with ⟨_,h2,h3⟩ | ⟨m,ps,h1,G,hm,hF⟩
   ·rw [Y] at h2;cases h2;exact ZgE h3
   ·rw [Y] at h1;cases h1;exact Zga G hm hF
  cases d with
  | zero=>exact e I
  | succ d =>
   rcases I with h | ⟨qs,h1,h2,_⟩
   ·exact e h
   ·rw [Y] at h1;cases h1
    rw [show qs=[] from z] at h2;cases h2
 refine ZkC (K:=K) (xs:=n.parts.map fun q:Nat=>V.int (q:Int)) (fun i σ H'=>∃ (y:Option V) (us:List Addr) (ps:List (Str×V)),σ=[some (.ref st),some (iN num),some (.ref a),some (.ref l),y]/\Same H H'/\Same H1 H'/\SqT K H' pa (n.parts.map fun q:Nat=>V.int (q:Int))/\H' l=some (.lst (us.map V.ref))/\PairT H' us ps/\(n.parts=[]->ps=n.pairs)/\(n.parts≠[]->PsTo NS Fm lev r i ps))
  ⟨_,ts,n.pairs,rfl,s03,s2.trans s3,hpa,s3 _ _ Zh,(hPT.tf s2.tf).tf s3.tf,fun _=>rfl,fun z=>?_⟩ (fun i σ H' _ h=>?_) ?_ ?_
 ·cases n with
  | bare=>exact absurd rfl z
  | leaf m ps=>exact absurd rfl z
  | fork qs=>exact PsTo.zero
 ·obtain ⟨_,_,_,_,_,_,h,_⟩:=h;exact h
 ·rintro i x σ H4 hx ⟨y,us,ps,rfl,s4,s14,hpa4,W,J,hb4,hf4⟩
  rw [getElem?_map] at hx
  cases eq1:n.parts[i]? with
  | none=>rw [eq1] at hx;cases hx
  | some q1 =>
   rw [eq1] at hx
   cases (show some (V.int (q1:Int))=some x from hx)
   have Z:n.parts≠[]:=fun z=>by rw [z] at eq1;simp at eq1
   have hto:=hf4 Z
   cases n with
   | bare=>exact absurd rfl Z
   | leaf m ps=>exact absurd rfl Z
   | fork qs =>
    cases d with
    | zero =>
     rcases I with ⟨_,h2,_⟩ | ⟨m,ps,h1,_⟩
     ·rw [Y] at h2;cases h2
     ·rw [Y] at h1;cases h1
    | succ d =>
     rcases I with h | ⟨qs',h1,h2,h3⟩
     ·rcases h with ⟨_,h2,_⟩ | ⟨m,ps,h1,_⟩
      ·rw [Y] at h2;cases h2
      ·rw [Y] at h1;cases h1
     ·rw [Y] at h1;cases h1
      have tq:=h3 i q1 eq1
      have hi4:i < 4:=by rw [<- h2];exact (Qn.mp eq1).1
      have S4:=S.keep s4
      obtain ⟨dx4,ob4⟩:=S4.ob
      refine ⟨_,rfl,.inl ⟨rfl,_,SqL.of W⟩,_,rfl,st,dx4,_,rfl,ob4,ZM ln dt (by decide +kernel) (by decide +kernel),_,rfl,?_⟩
      refine ⟨st,ln,dt,nds,tabs,q1,lev+1,r+i * 4 ^ lev,Fm,rfl,S4,tq,WU hrl hi4,fun l2 H5 us2 ps2 hl2 s5 el5 hpt5 hps5=>?_⟩
      have nl2:l2≠l:=fun z=>by rw [z,W] at hl2;cases hl2
      have el45:=s5 _ _ W
      have b1:=hlen hps5
      have b2:ps.length<=63:=by
       have h1:=ZbA hto.1 (N:=NS) fun x hx=>by obtain ⟨v,hv⟩:=key_mem.mp hx;exact ((hto.2 _ _).mp hv).1
       rw [length_map] at h1
       have:=N.few
       omega
      refine ⟨l,l2,_,_,rfl,rfl,el45,el5,by rw [length_map,length_map,J.1,hpt5.1];exact Yy (show _<=200 by omega),?_⟩
      have tf5:=ZaL (o:=.lst (us.map V.ref++us2.map V.ref)) el45
      refine ⟨_,us++us2,ps++ps2,rfl,fun b o e=>?_,fun b o e=>?_,(hpa4.tf s5.tf).tf tf5,?_,Zgq ((J.tf s5.tf).tf tf5) (hpt5.tf tf5),fun z=>absurd z Z,fun _=>hto.step hrl hps5⟩
      ·rw [Zi (Zp e hlH)];exact s5 _ _ (s4 _ _ e)
      ·rw [Zi (Zp e hl)];exact s5 _ _ (s14 _ _ e)
      ·rw [map_append];exact Zh
 ·rintro σ H4 ⟨y,us,ps,rfl,s4,s14,hpa4,W,J,hb4,hf4⟩
  refine ⟨_,rfl,q l H4 us ps hlH s4 W J ?_⟩
  by_cases z:n.parts=[]
  ·rw [hb4 z];exact ends z
  ·have h4:=hf4 z
   rw [length_map] at h4
   cases n with
   | bare=>exact absurd rfl z
   | leaf m ps=>exact absurd rfl z
   | fork qs =>
    obtain ⟨_,_,_,hl4⟩:=hna
    rw [show (Nd.fork qs).parts.length=4 from hl4] at h4
    exact h4.done
theorem ZgI {f:Addr}{fd:Qi}(N:Yj NS)(F:Fun K "pairs_below" "Store.pairs_below" c_Store_pairs_below f fd)(T:Txt K mg)(z:YG K C)(B:Def P w K mg base 1 "pairs_in" ["node"] (Xp K))(G:Def P w K mg base 1 "parts_in" ["node"] (Ws K))
 (b:Binds K fd Zaj []) (mt:Us K C "pairs_below" f):∀ d,FnOk P w K mg base ZH (1+d) f fd Zaj (Zdp K C NS d)
 | 0=>F.ok scPB (fun _ _ _ _ h=>h.elim) (fun _ _ _ _ _ _ _ _ _ h=>h.elim)
 | d+1=>ZmD N (Jr 1 d) F T z B G ⟨f,fd,ZgI N F T z B G b mt d,b,mt⟩
def Zkn:Stmt->Pos
 | .Return (some (.Call _ _ [⟨_,.Lambda _ _ _ p,_⟩] _)) _=>p
 | _=>⟨0,0,0,0⟩
def Xq:Pos:=Zkn ((Xj c_Store_pairs).getD 1 (.Pass ⟨0,0,0,0⟩))
def XX:Str:=(("Store.pairs":Str)++".<locals>.")++"<lambda>"
def Zap (K:Qa)(C Pp:Addr)(NS:List Str):Sp:=fun vs H Q _=>∃(st ln dt:Addr)(nds:List Nd)(tabs:List (Zn×V))(t:Nat)(F:Str->Option V),vs=[.ref st,iN t]/\StoreAt K C st ln dt H nds tabs/\(ZS tabs (QO (t:Int))).isSome=true/\Tri NS nds F 5 0 0 t/\LamAt H Pp Xq XX /\
 ∀ (l:Addr) (H':Hp) (ts:List Addr) (ps:List (Str×V)),H l=none->Grown Pp H H'->LamAt H' Pp Xq XX->H' l=some (.lst (ts.map V.ref))->PairT H' ts ps->PsOf NS F 0 0 ps->Wl ps->Q (.ref l) H'
abbrev nPs:List Str:=["self","table"]
abbrev ZdG:List Str:=["self","table"]
theorem scPs:Zo nPs ZdG (Zj c_Store_pairs):=⟨rfl,rfl,rfl,by decide +kernel,rfl,by decide +kernel,by decide +kernel⟩
theorem ZbN {f c Pl:Addr}{fd:Qi}(N:Yj NS)(F:FunC K "pairs" "Store.pairs" c_Store_pairs f fd c Pl)(T:Txt K mg)(TC:YG K C)(hBm:Ux base mg)(G:DefM P w K mg base 7 C "check_table" ["self","table"] (Zbq K C))
 (B:DefM P w K mg base 7 C "pairs_below" Zaj (Zdp K C NS 6)):FnOk P w K mg base ZH 8 f fd ZdG (Zap K C Pl NS):=by
 refine F.ok scPs (fun vs H Q E h=>?_) (fun A outer s H vs Q E hr h=>?_)
 ·obtain ⟨st,Y,dt,nds,I,t,F,rfl,_⟩:=h;rfl
 obtain ⟨st,Y,dt,nds,I,t,Fm,rfl,S,htab,htri,hL,q⟩:=h
 refine' ⟨?t,?h,?r⟩
 case h =>
  conv=>arg 2;whnf
  with_reducible refine' (Zd ?h1 (Zf ?h2))
  case h1=>exact ZA (Yc G TC.cl hr (pv 0) (Zb (pv 1) Za))
  case h2=>exact Zl (ZdN (c:=c) (Pl:=Pl) rfl T.sorted (Yc B TC.cl hr (pv 0) (Zb (pv 1) Za)) hr rfl F.hd hBm)
 try dsimp only [ZN,Cx.nox]
 refine Vw ?_
 intro zD zS zN1
 obtain ⟨dx,ob⟩:=S.ob
 refine ⟨_,rfl,st,dx,_,rfl,ob,ZM Y dt (by decide +kernel) (by decide +kernel),_,rfl,st,Y,dt,nds,I,t,rfl,S,htab,?_⟩
 refine ⟨_,rfl,st,dx,_,rfl,ob,ZM Y dt (by decide +kernel) (by decide +kernel),_,rfl,st,Y,dt,nds,I,t,0,0,Fm,rfl,S,htri,by decide,fun l1 H1 ts ps hl1 s1 el1 J W=>?_⟩
 have hpl:ps.length<=63:=by have:=W.few;have:=N.few;omega
 refine ⟨l1,ts,ps.map (·.1),rfl,el1,by rw [J.1];omega,by rw [length_map,J.1],fun i a k e1 e2=>?_,LamAt.same hL s1,fun H2 l ts' gr hL2 Z hO=>?_⟩
 ·rw [getElem?_map] at e2
  cases e3:ps[i]? with
  | none=>rw [e3] at e2;cases e2
  | some p =>
   rw [e3] at e2
   cases (show some p.1=some k from e2)
   exact ⟨_,J.2 i a p e1 e3⟩
 ·obtain ⟨tb,etb⟩:=(LamAt.same hL s1).tbl
  have hpt2:=J.tf (gr.tf etb)
  obtain ⟨ps',hp1,hp2,hp3⟩:=ZfH hpt2 hO
  have hlH:H l=none:=by
   cases e:H l with
   | none=>rfl
   | some o =>
    have e1:=s1 _ _ e
    by_cases z:l=Pl
    ·obtain ⟨tb2,etb2⟩:=hL2.tbl;rw [z,etb2] at Z;cases Z
    ·rw [gr _ _ z e1] at Z;cases Z
  have s3:=Zm Z (.lst (ts'.map V.ref))
  refine q l _ ts' ps' hlH (fun b o nb e=>s3 _ _ (gr b o nb (s1 _ _ e))) (LamAt.same hL2 s3) Zh (hp3.tf s3.tf) ⟨(hp1.map (·.1)).nodup_iff.mpr W.1,fun x v=>by rw [hp1.mem_iff];exact W.2 x v⟩ hp2
end
structure Yi (K:Qa)(CR:Addr):Prop where
 cl:Cls K CR
 nk:NoAttr K CR "kept"
 na:NoAttr K CR "aheads"
 ns:NoAttr K CR "steps"
 nt:NoAttr K CR "tables"
 nc:NoAttr K CR "costs"
section
variable {P:Qj}{w:Qr}{K:Qa}{mg:Str->Option Qb}{base:Heap}{CR CS Pl:Addr}{NS:List Str}
theorem Ut {st z B lt G:Addr}:(Uk st z B lt G).lookup ("kept":Str)=some (V.ref st):=rfl
theorem Vu {st z B lt G:Addr}:(Uk st z B lt G).lookup ("aheads":Str)=some (V.ref z):=rfl
theorem Zfi {st B z lt G:Addr}:(Uk st B z lt G).lookup ("steps":Str)=some (V.ref z):=rfl
theorem ZhO {st z B lt G:Addr}:(Uk st z B lt G).lookup ("tables":Str)=some (V.ref lt):=rfl
theorem rf_c {st B G lt z:Addr}:(Uk st B G lt z).lookup ("costs":Str)=some (V.ref z):=rfl
theorem ZG {st B S lt G:Addr}{m:Str}(h:[("kept":Str),"aheads","steps","tables","costs"].all (fun k=>!(m == k))=true):(Uk st B S lt G).lookup m=none:=by
 simp only [Rt,List.all_nil,Bool.and_true,QM,Ot] at h
 obtain ⟨h1,h2,I,z,J⟩:=h
 simp [Uk,GJ,h1,h2,I,z,J]
abbrev VR (K:Qa)(CR CS:Addr)(r:Addr)(pls:List ZP)(nds:List Nd)(tabs:List (Zn×V))(H:Hp):Prop:=XL K CR CS pls nds tabs r H
def UO (K:Qa)(CR CS:Addr):Sp:=fun vs H Q _=>∃(r:Addr)(pls:List ZP)(nds:List Nd)(tabs:List (Zn×V))(k:Nat),vs=[.ref r,.int (k:Int)]/\VR K CR CS r pls nds tabs H/\k<=pls.length/\Q .non H
abbrev nRCk:List Str:=["self","place"]
abbrev Xl:List Str:=["self","place"]
theorem Zjq:Zo nRCk Xl (Zj c_Roads_check_place):=⟨rfl,rfl,rfl,by decide +kernel,rfl,by decide +kernel,by decide +kernel⟩
theorem ZeE {f:Addr}{fd:Qi}(F:Fun K "check_place" "Roads.check_place" c_Roads_check_place f fd)(T:ZX mg)(G:Yi K CR):FnOk P w K mg base ZH 1 f fd Xl (UO K CR CS):=by
 refine F.ok Zjq (fun vs H Q E h=>?_) (fun J A outer s H vs Q E W h=>?_)
 ·obtain ⟨r,pls,nds,z,k,rfl,_⟩:=h;rfl
 obtain ⟨r,pls,nds,z,k,rfl,⟨st,B,ls,lt,Y,S⟩,Z,q⟩:=h
 obtain ⟨dx,I⟩:=S.get r
 refine' ⟨?t,?h,?r⟩
 case h =>
  conv=>arg 2;whnf
  with_reducible refine' (Zf (ZL ?h1 (Zf Zjk) ZV))
  case h1=>exact Vz (Zde ZiY VM Ze (pv 1) (Zv Zy rfl T.len QB (Zb (ZC (pv 0) rfl) Za)))
 try dsimp only [ZN,Cx.nox]
 refine ⟨_,rfl,_,_,rfl,rfl,_,rfl,?_⟩
 rw [decide_eq_true (show (0:Int)<=(k:Int) by omega)]
 refine Yo ⟨_,rfl,r,CR,dx,_,_,rfl,I,G.cl,G.na,Vu,B,_,rfl,.inl (SqL.of (S.get B)),_,_,rfl,rfl,_,rfl,?_⟩
 rw [decide_eq_true (show (k:Int) < (((V.non::pls.map fun q=>V.int (q.ah:Int)).length:Nat):Int) by rw [length_cons,length_map];omega)]
 exact Yh q
def Zdi (K:Qa)(CR CS:Addr):Sp:=fun vs H Q _=>∃(r:Addr)(pls:List ZP)(nds:List Nd)(tabs:List (Zn×V)),vs=[.ref r]/\VR K CR CS r pls nds tabs H/\Q (.int ((pls.length+1:Nat):Int)) H
abbrev nRPl:List Str:=["self"]
abbrev Zfu:List Str:=["self"]
theorem ZmR:Zo nRPl Zfu (Zj c_Roads_places):=⟨rfl,rfl,rfl,by decide +kernel,rfl,by decide +kernel,by decide +kernel⟩
theorem ZgP {f:Addr}{fd:Qi}(F:Fun K "places" "Roads.places" c_Roads_places f fd)(T:ZX mg)(G:Yi K CR):FnOk P w K mg base ZH 1 f fd Zfu (Zdi K CR CS):=by
 refine F.ok ZmR (fun vs H Q E h=>?_) (fun J A outer s H vs Q E W h=>?_)
 ·obtain ⟨r,pls,nds,z,rfl,_⟩:=h;rfl
 obtain ⟨r,pls,nds,z,rfl,⟨st,B,Z,lt,Y,S⟩,q⟩:=h
 obtain ⟨dx,I⟩:=S.get r
 refine' ⟨?t,?h,?r⟩
 case h =>
  conv=>arg 2;whnf
  with_reducible refine' (Zf ?h1)
  case h1=>exact Zl (Zv Zy rfl T.len QB (Zb (ZC (pv 0) rfl) Za))
 try dsimp only [ZN,Cx.nox]
 refine ⟨_,rfl,r,CR,dx,_,_,rfl,I,G.cl,G.na,Vu,B,_,rfl,.inl (SqL.of (S.get B)),?_⟩
 rw [length_cons,length_map];exact q
def ahV (pls:List ZP):Nat->V
 | 0=>.non
 | k+1=>.int (((pls.getD k ⟨0,.clr "",0,0⟩).ah:Nat):Int)
theorem Zmj {pls:List ZP}{k:Nat}(h:k<=pls.length):(V.non::pls.map fun q=>V.int (q.ah:Int))[k]?=some (ahV pls k):=by
 cases k with
 | zero=>rfl
 | succ k =>
  rw [GW,getElem?_map,getElem?_eq_getElem (show k < pls.length by omega)]
  show some _=some (V.int _)
  rw [getD_eq_getElem?_getD,getElem?_eq_getElem (show k < pls.length by omega)]
  rfl
def Zbk (K:Qa)(CR CS:Addr):Sp:=fun vs H Q _=>∃(r:Addr)(pls:List ZP)(nds:List Nd)(tabs:List (Zn×V))(k:Nat),vs=[.ref r,.int (k:Int)]/\VR K CR CS r pls nds tabs H/\k<=pls.length/\Q (ahV pls k) H
abbrev nRAh:List Str:=["self","place"]
abbrev Wv:List Str:=["self","place"]
theorem Zjt:Zo nRAh Wv (Zj c_Roads_ahead):=⟨rfl,rfl,rfl,by decide +kernel,rfl,by decide +kernel,by decide +kernel⟩
theorem Zhr {f:Addr}{fd:Qi}(F:Fun K "ahead" "Roads.ahead" c_Roads_ahead f fd)(T:ZX mg)(G:Yi K CR)(z:DefM P w K mg base 1 CR "check_place" Xl (UO K CR CS)):FnOk P w K mg base ZH 2 f fd Wv (Zbk K CR CS):=by
 refine F.ok Zjt (fun vs H Q E h=>?_) (fun cdv A outer s H vs Q E Y h=>?_)
 ·obtain ⟨r,pls,nds,B,k,rfl,_⟩:=h;rfl
 obtain ⟨r,pls,nds,B,k,rfl,R,W,q⟩:=h
 obtain ⟨st,I,ls,lt,lc,S⟩:=id R
 obtain ⟨dx,J⟩:=S.get r
 refine' ⟨?t,?h,?r⟩
 case h =>
  conv=>arg 2;whnf
  with_reducible refine' (Zd ?h1 (Zf ?h2))
  case h1=>exact ZA (Yc z G.cl Y (pv 0) (Zb (pv 1) Za))
  case h2=>exact Zl (Zr Zx (ZC (pv 0) rfl) (pv 1) (fun _ _=>rfl))
 try dsimp only [ZN,Cx.nox]
 refine Vw ?_
 intro zD zS Z
 refine ⟨_,rfl,r,dx,_,rfl,J,ZG (by decide +kernel),_,rfl,r,pls,nds,B,k,rfl,R,W,?_⟩
 exact ⟨_,rfl,r,CR,dx,_,_,rfl,J,G.cl,G.na,Vu,_,rfl,I,_,_,_,rfl,rfl,SqL.of (S.get I),ZJ (Zmj W),q⟩
end
def bk (pls:List ZP):Nat->Nat->List Nat
 | 0,_=>[]
 | _+1,0=>[0]
 | f+1,k+1=>(k+1)::bk pls f (pls.getD k ⟨0,.clr "",0,0⟩).ah
def WfP (pls:List ZP):Prop:=∀(k:Nat)(q:ZP),pls[k]?=some q->q.ah<=k
theorem WfP.at {pls:List ZP}(h:WfP pls){k:Nat}(z:k < pls.length):(pls.getD k ⟨0,.clr "",0,0⟩).ah<=k:=by
 have e:=getElem?_eq_getElem z
 rw [getD_eq_getElem?_getD,e]
 exact h k _ e
theorem Zkq {pls:List ZP}(h:WfP pls):∀ k,k<=pls.length->∀ f,k+1<=f->bk pls f k=bk pls (k+1) k:=by
 intro k
 induction k using Nat.strongRecOn with
 | ind k ih =>
  intro B f z
  cases k with
  | zero=>obtain ⟨g,rfl⟩:∃ g,f=g+1:=⟨f - 1,by omega⟩;rfl
  | succ k =>
   obtain ⟨g,rfl⟩:∃ g,f=g+1:=⟨f - 1,by omega⟩
   have G:=h.at (show k < pls.length by omega)
   show (k+1)::bk pls g _=(k+1)::bk pls (k+1) _
   rw [ih _ (by omega) (by omega) g (by omega),ih _ (by omega) (by omega) (k+1) (by omega)]
section
variable {P:Qj}{w:Qr}{K:Qa}{mg:Str->Option Qb}{base:Heap}{CR CS Pl:Addr}{NS:List Str}
def StV (pls:List ZP)(k:Nat)(v:V)(H:Hp):Prop:=match k with
 | 0=>v=.non
 | k+1=>∃ a s,v=.ref a/\(pls.map (·.st))[k]?=some s/\H a=some (.tup s.vs)
def Zbu (K:Qa)(CR CS:Addr):Sp:=fun vs H Q _=>∃(r:Addr)(pls:List ZP)(nds:List Nd)(tabs:List (Zn×V))(k:Nat),vs=[.ref r,.int (k:Int)]/\VR K CR CS r pls nds tabs H/\k<=pls.length/\∀ v,StV pls k v H->Q v H
abbrev nRSt:List Str:=["self","place"]
abbrev Uo:List Str:=["self","place"]
theorem Zjr:Zo nRSt Uo (Zj c_Roads_step):=⟨rfl,rfl,rfl,by decide +kernel,rfl,by decide +kernel,by decide +kernel⟩
theorem Zih {f:Addr}{fd:Qi}(F:Fun K "step" "Roads.step" c_Roads_step f fd)(T:ZX mg)(I:Yi K CR)(z:DefM P w K mg base 1 CR "check_place" Xl (UO K CR CS)):FnOk P w K mg base ZH 2 f fd Uo (Zbu K CR CS):=by
 refine F.ok Zjr (fun vs H Q E h=>?_) (fun cdv A outer s H vs Q E hr h=>?_)
 ·obtain ⟨r,pls,nds,B,k,rfl,_⟩:=h;rfl
 obtain ⟨r,pls,nds,B,k,rfl,R,hk,q⟩:=h
 obtain ⟨st,la,Z,lt,lc,S⟩:=id R
 obtain ⟨dx,J⟩:=S.get r
 obtain ⟨as,G,W,Y⟩:=S.get Z
 refine' ⟨?t,?h,?r⟩
 case h =>
  conv=>arg 2;whnf
  with_reducible refine' (Zd ?h1 (Zf ?h2))
  case h1=>exact ZA (Yc z I.cl hr (pv 0) (Zb (pv 1) Za))
  case h2=>exact Zl (Zr Zx (ZC (pv 0) rfl) (pv 1) (fun _ _=>rfl))
 try dsimp only [ZN,Cx.nox]
 refine Vw ?_
 intro zD zS zN1
 refine ⟨_,rfl,r,dx,_,rfl,J,ZG (by decide +kernel),_,rfl,r,pls,nds,B,k,rfl,R,hk,?_⟩
 rw [length_map] at W
 cases k with
 | zero=>exact ⟨_,rfl,r,CR,dx,_,_,rfl,J,I.cl,I.ns,Zfi,_,rfl,Z,_,_,_,rfl,rfl,SqL.of G,ZJ rfl,q _ rfl⟩
 | succ k =>
  have ha:=getElem?_eq_getElem (show k < as.length by omega)
  have hs:(pls.map (·.st))[k]?=some pls[k].st:=by rw [getElem?_map,getElem?_eq_getElem (show k < pls.length by omega)];rfl
  exact ⟨_,rfl,r,CR,dx,_,_,rfl,J,I.cl,I.ns,Zfi,_,rfl,Z,_,_,_,rfl,rfl,SqL.of G,ZJ (show (V.non::as.map V.ref)[k+1]?=some (.ref as[k]) by rw [GW,getElem?_map,ha];rfl),q _ ⟨_,_,rfl,hs,Y k _ _ ha hs⟩⟩
def tbN (pls:List ZP):Nat->Nat
 | 0=>0
 | k+1=>(pls.getD k ⟨0,.clr "",0,0⟩).tb
theorem Vl {pls:List ZP}{k:Nat}(h:k<=pls.length):(0::pls.map (·.tb))[k]?=some (tbN pls k):=by
 cases k with
 | zero=>rfl
 | succ k =>
  rw [GW,getElem?_map,getElem?_eq_getElem (show k < pls.length by omega)]
  show some _=some (pls.getD k ⟨0,.clr "",0,0⟩).tb
  rw [getD_eq_getElem?_getD,getElem?_eq_getElem (show k < pls.length by omega)]
  rfl
theorem ZlP {pls:List ZP}{k:Nat}(h:k<=pls.length):(V.int 0::pls.map fun q=>V.int (q.tb:Int))[k]?=some (.int (tbN pls k:Int)):=by
 have e:(V.int 0::pls.map fun q=>V.int (q.tb:Int))=(0::pls.map (·.tb)).map fun n:Nat=>V.int (n:Int):=by rw [map_cons,map_map];rfl
 rw [e,getElem?_map,Vl h];rfl
def Wo (K:Qa)(CR CS:Addr):Sp:=fun vs H Q _=>∃(r:Addr)(pls:List ZP)(nds:List Nd)(tabs:List (Zn×V))(k:Nat),vs=[.ref r,.int (k:Int)]/\VR K CR CS r pls nds tabs H/\k<=pls.length/\Q (.int (tbN pls k:Int)) H
abbrev nRTa:List Str:=["self","place"]
abbrev Xm:List Str:=["self","place"]
theorem Zja:Zo nRTa Xm (Zj c_Roads_table):=⟨rfl,rfl,rfl,by decide +kernel,rfl,by decide +kernel,by decide +kernel⟩
theorem ZcM {f:Addr}{fd:Qi}(F:Fun K "table" "Roads.table" c_Roads_table f fd)(T:ZX mg)(G:Yi K CR)(z:DefM P w K mg base 1 CR "check_place" Xl (UO K CR CS)):FnOk P w K mg base ZH 2 f fd Xm (Wo K CR CS):=by
 refine F.ok Zja (fun vs H Q E h=>?_) (fun Z A outer s H vs Q E W h=>?_)
 ·obtain ⟨r,pls,nds,B,k,rfl,_⟩:=h;rfl
 obtain ⟨r,pls,nds,B,k,rfl,R,J,q⟩:=h
 obtain ⟨st,la,ls,lt,lc,S⟩:=id R
 obtain ⟨dx,I⟩:=S.get r
 refine' ⟨?t,?h,?r⟩
 case h =>
  conv=>arg 2;whnf
  with_reducible refine' (Zd ?h1 (Zf ?h2))
  case h1=>exact ZA (Yc z G.cl W (pv 0) (Zb (pv 1) Za))
  case h2=>exact Zl (Zr Zx (ZC (pv 0) rfl) (pv 1) (fun _ _=>rfl))
 try dsimp only [ZN,Cx.nox]
 refine Vw ?_
 intro zD zS Y
 refine ⟨_,rfl,r,dx,_,rfl,I,ZG (by decide +kernel),_,rfl,r,pls,nds,B,k,rfl,R,J,?_⟩
 exact ⟨_,rfl,r,CR,dx,_,_,rfl,I,G.cl,G.nt,ZhO,_,rfl,lt,_,_,_,rfl,rfl,SqL.of (S.get lt),ZJ (ZlP J),q⟩
def rd (pls:List ZP)(k:Nat):List Nat:=(bk pls (k+1) k).reverse
def nV (n:Nat):V:=.int (n:Int)
def UC (K:Qa)(CR CS:Addr):Sp:=fun vs H Q _=>∃(r:Addr)(pls:List ZP)(nds:List Nd)(tabs:List (Zn×V))(k:Nat),vs=[.ref r,.int (k:Int)]/\VR K CR CS r pls nds tabs H/\WfP pls/\k<=pls.length/\pls.length<=10000/\∀ l H',Same H H'->H l=none->H' l=some (.lst ((rd pls k).map nV))->Q (.ref l) H'
abbrev nRRo:List Str:=["self","place","back","at"]
abbrev Wa:List Str:=["self","place"]
theorem scRRo:Zo nRRo Wa (Zj c_Roads_road):=⟨rfl,rfl,rfl,by decide +kernel,rfl,by decide +kernel,by decide +kernel⟩
theorem ZcI {f:Addr}{fd:Qi}(F:Fun K "road" "Roads.road" c_Roads_road f fd)(T:ZX mg)(TR:Yi K CR)(z:DefM P w K mg base 2 CR "ahead" Wv (Zbk K CR CS)):FnOk P w K mg base ZH 3 f fd Wa (UC K CR CS):=by
 refine F.ok scRRo (fun vs H Q E h=>?_) (fun cdv A outer s H vs Q E hr h=>?_)
 ·obtain ⟨r,pls,nds,G,k,rfl,_⟩:=h;rfl
 obtain ⟨r,pls,nds,G,k,rfl,R,hw,hk,hpl,q⟩:=h
 refine' ⟨?t,?h,?r⟩
 case h =>
  conv=>arg 2;whnf
  with_reducible refine' (Zd ?h1 (Zd ?h2 (Zd (UZ ?h3 ?h4 (Zd ?h5 (Zf ?h6))) (Zf ?h7))))
  case h1=>exact Zt (i:=2) scRRo.nd rfl (Qy rfl) (Yg Za)
  case h2=>exact Zt (i:=3) scRRo.nd rfl (Qy rfl) (pv 1)
  case h3=>exact Gb
  case h4=>exact WB (UA (pv 3))
  case h5=>exact ZA (Yz Qx QC QD Yl (pv 2) (Zb (pv 3) Za))
  case h6=>exact Zt (i:=3) scRRo.nd rfl (Qy rfl) (Yc z TR.cl hr (pv 0) (Zb (pv 3) Za))
  case h7=>exact Zl (Zej (pv 2))
 try dsimp only [ZN,Cx.nox]
 refine zs4 ?_
 intro zD zS zN3 zN2 zN1
 refine ⟨(by show 0<=Qh;decide),fun l hl=>⟨_,rfl,?_⟩⟩
 refine ⟨fun m σ H'=>∃ (bs:List Nat) (B:V),σ=[some (.ref r),some (.int (k:Int)),some (.ref l),some B]/\Same H H'/\H' l=some (.lst (bs.map nV))/\bs.length+m<=k+1/\((∃ j,B=.int (j:Nat)/\j<=pls.length/\m=j+1/\bs++bk pls (j+1) j=bk pls (k+1) k)\/(B=.non/\bs=bk pls (k+1) k)),
  ⟨k+1,[],_,rfl,Zm hl _,Zh,by show 0+(k+1)<=k+1;omega,.inl ⟨k,rfl,hk,rfl,rfl⟩⟩,?_⟩
 rintro m σ H2 ⟨bs,B,rfl,s2,W,hm,hc⟩
 refine ⟨_,rfl,_,rfl,?_⟩
 rcases hc with ⟨j,rfl,hj,rfl,J⟩ | ⟨rfl,rfl⟩
 ·have R2:=Up.up R s2
  obtain ⟨st,la,ls,lt,lc,S2⟩:=id R2
  obtain ⟨dx2,ob2⟩:=S2.get r
  have I:∀ c,Same H (upd H2 l c):=fun c b o e=>by rw [Zi (Zp e hl)];exact s2 _ _ e
  refine Yo ⟨_,fun σ' H' h=>h,_,rfl,.inl ⟨rfl,_,SqL.of W⟩,_,rfl,l,_,_,rfl,rfl,W,YZ (show _<=20000 by rw [length_map];omega),?_⟩
  have R3:=Up.up R (I (.lst (bs.map nV++[.int (j:Int)])))
  obtain ⟨st3,la3,ls3,lt3,lc3,S3⟩:=id R3
  obtain ⟨Z,Y⟩:=S3.get r
  refine ⟨_,rfl,r,Z,_,rfl,Y,ZG (by decide +kernel),_,rfl,r,pls,nds,G,j,rfl,R3,hj,?_⟩
  have eb:upd H2 l (.lst (bs.map nV++[.int (j:Int)])) l=some (.lst ((bs++[j]).map nV)):=by rw [Zh,map_append];rfl
  cases j with
  | zero=>exact ⟨0,by omega,bs++[0],_,rfl,I _,eb,by rw [length_append];show bs.length+1+0<=k+1;omega,.inr ⟨rfl,J⟩⟩
  | succ j =>
   have ha:=hw.at (show j < pls.length by omega)
   refine ⟨(pls.getD j ⟨0,.clr "",0,0⟩).ah+1,by omega,bs++[j+1],_,rfl,I _,eb,by rw [length_append];show bs.length+1+_<=k+1;omega,.inl ⟨_,rfl,by omega,rfl,?_⟩⟩
   rw [JK,<- J]
   show bs++(j+1)::bk pls _ _=bs++(j+1)::bk pls (j+1) _
   rw [Zkq hw _ (by omega) (j+1) (by omega)]
 ·refine Yh ⟨_,rfl,l,_,rfl,SqL.of W,fun l2 S=>?_⟩
  refine q l2 _ (fun b o e=>?_) ?_ ?_
  ·rw [Zi (Zp (s2 _ _ e) S)];exact s2 _ _ e
  ·exact YQ s2 S
  ·rw [Zh,<- List.map_reverse];rfl
end
structure RInv (NS:List Str)(pls:List ZP)(nds:List Nd)(tabs:List (Zn×V)):Prop where
 wf:WfP pls
 tr:∀ (k:Nat) (F:Str->Option V) (t:Nat),(envs pls)[k]?=some F->(0::pls.map (·.tb))[k]?=some t->(ZS tabs (QO (t:Int))).isSome=true/\Tri NS nds F 5 0 0 t/\∀ x u,F x=some u->YW u
theorem Zbt {v:V}(h:YW v):ValV v:=by
 cases v<;>first | trivial | exact h.elim
theorem RInv.app {NS:List Str}{pls:List ZP}{nds nds':List Nd}{S J:List (Zn×V)}(I:RInv NS pls nds S){q:ZP}{F:Str->Option V}(hk:q.ah<=pls.length)(hF:(envs pls)[q.ah]?=some F)(ext:NEx nds nds')
 (mono:∀ k,(ZS S k).isSome=true->(ZS J k).isSome=true) (ht:(ZS J (QO (q.tb:Int))).isSome=true) (tri:Tri NS nds' (q.st.ap F) 5 0 0 q.tb) (hv:∀ x v,q.st=.set x v->YW v):RInv NS (pls++[q]) nds' J:=by
 have Y:=(I.tr q.ah F _ hF (Vl hk)).2.2
 refine ⟨fun k p e=>?_,fun k G t e1 e2=>?_⟩
 ·by_cases h:k < pls.length
  ·rw [getElem?_append_left h] at e;exact I.wf k p e
  ·rw [getElem?_append_right (by omega)] at e
   have:k - pls.length=0:=by
    cases z:k - pls.length with
    | zero=>rfl
    | succ j=>rw [z] at e;simp at e
   rw [this] at e
   cases (show some q=some p from e)
   omega
 ·rw [ZcJ] at e1
  by_cases h:k < (envs pls).length
  ·rw [getElem?_append_left h] at e1
   have W:(0::pls.map (·.tb))[k]?=some t:=by
    rw [map_append,<- OF,getElem?_append_left (by rw [length_cons,length_map];rw [Vf] at h;exact h)] at e2
    exact e2
   obtain ⟨g1,g2,g3⟩:=I.tr k G t e1 W
   exact ⟨mono _ g1,Tri.mono 5 g2 ext,g3⟩
  ·rw [getElem?_append_right (by omega)] at e1
   have hz:k - (envs pls).length=0:=by
    cases z:k - (envs pls).length with
    | zero=>rfl
    | succ j=>rw [z] at e1;simp at e1
   rw [hz] at e1
   have Z:q.st.ap ((envs pls).getD q.ah fun _=>none)=G:=Qv e1
   rw [getD_eq_getElem?_getD,hF] at Z
   have ek:k=pls.length+1:=by rw [Vf] at h hz;omega
   have W:q.tb=t:=by
    rw [ek,GW,map_append,getElem?_append_right (by rw [length_map];omega),length_map,Jb] at e2
    exact Qv e2
   subst Z W
   refine ⟨ht,tri,fun x u B=>?_⟩
   have B:q.st.ap F x=some u:=B
   cases es:q.st with
   | set y v =>
    rw [es] at B
    have B:(if x=y then some v else F x)=some u:=B
    by_cases z:x=y
    ·rw [if_pos z] at B;cases B;exact hv y _ es
    ·rw [if_neg z] at B;exact Y x u B
   | clr y =>
    rw [es] at B
    have B:(if x=y then none else F x)=some u:=B
    by_cases z:x=y
    ·rw [if_pos z] at B;cases B
    ·rw [if_neg z] at B;exact Y x u B
section
variable {P:Qj}{w:Qr}{K:Qa}{mg:Str->Option Qb}{base:Heap}{CR CS Pl:Addr}
abbrev nRLe:List Str:=["self","place"]
abbrev Zco:List Str:=["self","place"]
theorem ZmC:Zo nRLe Zco (Zj c_Roads_length):=⟨rfl,rfl,rfl,by decide +kernel,rfl,by decide +kernel,by decide +kernel⟩
def ZfB (K:Qa)(CR CS Pl:Addr):Sp:=fun vs H Q _=>∃(NS:List Str)(r sa:Addr)(pls:List ZP)(nds:List Nd)(tabs:List (Zn×V))(k:Nat)(s:Stp)(Δ:Rs),vs=[.ref r,.int (k:Int),.ref sa]/\Yj NS/\Sep ((r,XL K CR CS pls nds tabs)::(Pl,Xh)::Δ) H/\H sa=some (.tup s.vs)/\RInv NS pls nds tabs/\s.ok NS/\k<=pls.length/\pls.length<=10000/\nds.length<=90000/\tabs.length<=90000 /\
 ∀ (H':Hp) (nds':List Nd) (tabs':List (Zn×V)) (t':Nat),Sep ((r,XL K CR CS (pls++[⟨k,s,t',nds'.length - nds.length⟩]) nds' tabs')::(Pl,Xh)::Δ) H'->RInv NS (pls++[⟨k,s,t',nds'.length - nds.length⟩]) nds' tabs'->NEx nds nds'->nds'.length<=nds.length+6->tabs'.length<=tabs.length+1->Q (.int ((pls.length+1:Nat):Int)) H'
theorem NEx.len {nds nds':List Nd}(h:NEx nds nds'):nds.length<=nds'.length:=by
 cases e:nds.length with
 | zero=>omega
 | succ n =>
  have z:n < nds.length:=by omega
  have:=(Qn.mp (h n _ (getElem?_eq_getElem z))).1
  omega
abbrev nRGo:List Str:=["self","place","step","table","made_ahead"]
abbrev WK:List Str:=["self","place","step"]
theorem scRGo:Zo nRGo WK (Zj c_Roads_go_on):=⟨rfl,rfl,rfl,by decide +kernel,rfl,by decide +kernel,by decide +kernel⟩
theorem Zke {f:Addr}{fd:Qi}(F:Fun K "go_on" "Roads.go_on" c_Roads_go_on f fd)(T:ZX mg)(B:Yi K CR)(TC:YG K CS)(DR_table:DefM P w K mg base 9 CR "table" Xm (Wo K CR CS))(DS_made:DefM P w K mg base 9 CS "made" ["self"] (Zcz K CS))
 (DS_put:DefM P w K mg base 9 CS "put" ["self","table","name","value"] (Zdk K CS Pl)) (Z:DefM P w K mg base 9 CS "without" ["self","table","name"] (ZeU K CS Pl)):FnOk P w K mg base ZH 10 f fd WK (ZfB K CR CS Pl):=by
 refine F.ok scRGo (fun vs H Q E h=>?_) (fun cdv A outer s H vs Q E hr h=>?_)
 ·obtain ⟨NS,r,sa,pls,nds,tabs,k,s,Δ,rfl,_⟩:=h;rfl
 obtain ⟨NS,r,sa,pls,nds,tabs,k,s,Δ,rfl,N,S0,es,I,hs,hk,hpl,hnd,htb,q⟩:=h
 obtain ⟨st,Y,ls,lt,lc,S⟩:=S0.roaO
 obtain ⟨dx,ob⟩:=S.get r
 obtain ⟨b0,ln,dt,SA⟩:=S.get st
 obtain ⟨dxs,obs⟩:=SA.ob
 obtain ⟨Fk,hFk⟩:∃ Fk,(envs pls)[k]?=some Fk:=⟨_,getElem?_eq_getElem (by rw [Vf];omega)⟩
 obtain ⟨g1,g2,g3⟩:=I.tr k Fk _ hFk (Vl hk)
 refine' ⟨?t,?h,?r⟩
 case h =>
  conv=>arg 2;whnf
  with_reducible refine' (Zd ?h1 (Zd ?h2 (Zd (ZL ?h3 (Zf ?h4) (Zf ?h5)) (Zd ?h6 (Zd ?h7 (Zd ?h8 (Zd ?h9 (Zf ?h10))))))))
  case h1=>exact Zt (i:=3) scRGo.nd rfl (Qy rfl) (Yc DR_table B.cl hr (pv 0) (Zb (pv 1) Za))
  case h2=>exact Zt (i:=4) scRGo.nd rfl (Qy rfl) (Uj DS_made TC.cl hr (ZC (pv 0) rfl))
  case h3=>exact ZE ZU (Zr Yd (pv 2) Ze (fun _ _=>rfl)) ZK (ZB _)
  case h4=>exact Zt (i:=3) scRGo.nd rfl (Qy rfl) (Yc DS_put TC.cl hr (ZC (pv 0) rfl) (Zb (pv 3) (Zb (Zr Yd (pv 2) Ze (fun _ _=>rfl)) (Zb (Zr Yd (pv 2) Ze (fun _ _=>rfl)) Za))))
  case h5=>exact Zt (i:=3) scRGo.nd rfl (Qy rfl) (Yc Z TC.cl hr (ZC (pv 0) rfl) (Zb (pv 3) (Zb (Zr Yd (pv 2) Ze (fun _ _=>rfl)) Za)))
  case h6=>exact ZA (Yz Qx QC QD Yl (ZC (pv 0) rfl) (Zb (pv 1) Za))
  case h7=>exact ZA (Yz Qx QC QD Yl (ZC (pv 0) rfl) (Zb (pv 2) Za))
  case h8=>exact ZA (Yz Qx QC QD Yl (ZC (pv 0) rfl) (Zb (pv 3) Za))
  case h9=>exact ZA (Yz Qx QC QD Yl (ZC (pv 0) rfl) (Zb (Zs Ys (Uj DS_made TC.cl hr (ZC (pv 0) rfl)) (pv 4)) Za))
  case h10=>exact Zl (Zs Ys (Zv Zy rfl T.len QB (Zb (ZC (pv 0) rfl) Za)) Ze)
 try dsimp only [ZN,Cx.nox]
 refine zs8 ?_
 intro zD zS zN7 zN6 zN5 zN4 zN3 zN2 zN1
 refine ⟨_,rfl,r,dx,_,rfl,ob,ZG (by decide +kernel),_,rfl,r,pls,nds,tabs,k,rfl,S0.get r,hk,?_⟩
 refine ⟨_,rfl,r,CR,dx,_,_,rfl,ob,B.cl,B.nk,Ut,st,dxs,_,rfl,obs,ZM ln dt (by decide +kernel) (by decide +kernel),st,nds,tabs,rfl,S.get st,?_⟩
 have S1:=((S.imm es rfl).pull Pl).pull st
 cases s with
 | set x v =>
  obtain ⟨hx,hv⟩:=hs
  refine ⟨_,rfl,sa,_,_,_,rfl,rfl,SqT.of es,ZJ (j:=0) rfl,rfl,_,rfl,?_⟩
  rw [decide_eq_true rfl]
  refine Yo ⟨_,rfl,r,CR,dx,_,_,rfl,ob,B.cl,B.nk,Ut,st,dxs,_,rfl,obs,ZM ln dt (by decide +kernel) (by decide +kernel),_,rfl,_,rfl,sa,_,_,_,rfl,rfl,SqT.of es,ZJ (j:=1) rfl,_,rfl,sa,_,_,_,rfl,rfl,SqT.of es,ZJ (j:=2) rfl,?_⟩
  refine ⟨NS,st,nds,tabs,tbN pls k,x,v,Fk,_,N,rfl,S1,g1,g2,hx,Zbt hv,fun u hu=>Zbt (g3 x u hu),by omega,by omega,fun H2 z G t2 S2 J len2 tl2 mono2 ht2 tri2=>?_⟩
  have I2:=RInv.app (q:=⟨k,.set x v,t2,z.length - nds.length⟩) I hk hFk J mono2 ht2 tri2 (fun y u e=>by cases e;exact hv)
  revert S2 I2
  generalize Stp.set x v=s at *
  intro S2 I2
  obtain ⟨dx2,ob2⟩:=S2.get r
  refine ⟨_,rfl,r,CR,dx2,_,_,rfl,ob2,B.cl,B.na,Vu,.inl ⟨rfl,_,SqL.of (S2.get Y)⟩,_,rfl,Y,_,_,rfl,rfl,S2.get Y,YZ (show _<=20000 by rw [length_cons,length_map];omega),?_⟩
  generalize W:upd H2 Y _=H3
  have S3:=S2.putE W
  clear W
  obtain ⟨dx3,ob3⟩:=S3.get r
  obtain ⟨as3,els,hal,_⟩:=S3.get ls
  rw [length_map] at hal
  refine ⟨_,rfl,r,CR,dx3,_,_,rfl,ob3,B.cl,B.ns,Zfi,.inl ⟨rfl,_,SqL.of els⟩,_,rfl,ls,_,_,rfl,rfl,els,YZ (show _<=20000 by rw [length_cons,length_map];omega),?_⟩
  generalize W:upd H3 ls _=H4
  have S4:=W ▸ S3.stepApp ls els (S3.get sa)
  clear W
  obtain ⟨dx4,ob4⟩:=S4.get r
  refine ⟨_,rfl,r,CR,dx4,_,_,rfl,ob4,B.cl,B.nt,ZhO,.inl ⟨rfl,_,SqL.of (S4.get lt)⟩,_,rfl,lt,_,_,rfl,rfl,S4.get lt,YZ (show _<=20000 by rw [length_cons,length_map];omega),?_⟩
  generalize W:upd H4 lt _=H5
  have S5:=S4.putE W
  clear W
  obtain ⟨dx5,ob5⟩:=S5.get r
  obtain ⟨_,ln5,dt5,SA5⟩:=S5.get st
  obtain ⟨dxs5,obs5⟩:=SA5.ob
  refine ⟨_,rfl,r,CR,dx5,_,_,rfl,ob5,B.cl,B.nc,rf_c,.inl ⟨rfl,_,SqL.of (S5.get lc)⟩,_,rfl,r,CR,dx5,_,_,rfl,ob5,B.cl,B.nk,Ut,st,dxs5,_,rfl,obs5,ZM ln5 dt5 (by decide +kernel) (by decide +kernel),st,z,G,rfl,S5.get st,_,rfl,_,_,rfl,rfl,lc,_,_,rfl,rfl,S5.get lc,YZ (show _<=20000 by rw [length_cons,length_map];omega),?_⟩
  generalize W:upd H5 lc _=H6
  have S6:=S5.putE W
  clear W
  obtain ⟨dx6,ob6⟩:=S6.get r
  refine ⟨_,rfl,r,CR,dx6,_,_,rfl,ob6,B.cl,B.na,Vu,Y,_,rfl,.inl (SqL.of (S6.get Y)),_,_,rfl,rfl,?_⟩
  have hle:=J.len
  have ec:V.int ((z.length:Int) - (nds.length:Int))=V.int ((z.length - nds.length:Nat):Int):=congrArg V.int (by omega)
  have S7:=(((((((S6.drop sa).pull Pl).pull lc).pull lt).pull ls).pull Y).pull st).pull r
  have S8:Sep ((r,Zan CR (Uk st Y ls lt lc))::(st,Wb K CS z G)::(Y,Ye (V.non::(pls++[(⟨k,s,t2,z.length - nds.length⟩:ZP)]).map fun q=>V.int (q.ah:Int)))::(ls,UH ((pls++[(⟨k,s,t2,z.length - nds.length⟩:ZP)]).map (·.st)))::(lt,Ye (V.int 0::(pls++[(⟨k,s,t2,z.length - nds.length⟩:ZP)]).map fun q=>V.int (q.tb:Int)))::(lc,Ye (V.int 0::(pls++[(⟨k,s,t2,z.length - nds.length⟩:ZP)]).map fun q=>V.int (q.co:Int)))::(Pl,Xh)::Δ) H6:=by
   rw [map_append,map_append,map_append,map_append]
   show Sep (_::_::_::_::_::(lc,Ye (V.int 0::(pls.map (fun q=>V.int (q.co:Int))++[V.int ((z.length - nds.length:Nat):Int)])))::_) _
   rw [<- ec]
   exact S7
  have e9:(((V.non::pls.map fun q=>V.int (q.ah:Int))++[V.int (k:Int)]).length:Int) - 1=((pls.length+1:Nat):Int):=by rw [length_append,length_cons,length_map];show ((pls.length+1+1:Nat):Int) - 1=_;omega
  have:=q H6 z G t2 S8.roaC I2 J len2 tl2
  rw [<- e9] at this
  exact this
 | clr x =>
  refine ⟨_,rfl,sa,_,_,_,rfl,rfl,SqT.of es,ZJ (j:=0) rfl,rfl,_,rfl,?_⟩
  rw [show decide (V.str "clear"=V.str (QI "set"))=false by decide +kernel]
  refine Yh ⟨_,rfl,r,CR,dx,_,_,rfl,ob,B.cl,B.nk,Ut,st,dxs,_,rfl,obs,ZM ln dt (by decide +kernel) (by decide +kernel),_,rfl,_,rfl,sa,_,_,_,rfl,rfl,SqT.of es,ZJ (j:=1) rfl,?_⟩
  refine ⟨NS,st,nds,tabs,tbN pls k,x,Fk,_,N,rfl,S1,g1,g2,hs,fun u hu=>Zbt (g3 x u hu),by omega,by omega,fun H2 z G t2 S2 J len2 tl2 mono2 ht2 tri2=>?_⟩
  have I2:=RInv.app (q:=⟨k,.clr x,t2,z.length - nds.length⟩) I hk hFk J mono2 ht2 tri2 (fun y u e=>by cases e)
  revert S2 I2
  generalize Stp.clr x=s at *
  intro S2 I2
  obtain ⟨dx2,ob2⟩:=S2.get r
  refine ⟨_,rfl,r,CR,dx2,_,_,rfl,ob2,B.cl,B.na,Vu,.inl ⟨rfl,_,SqL.of (S2.get Y)⟩,_,rfl,Y,_,_,rfl,rfl,S2.get Y,YZ (show _<=20000 by rw [length_cons,length_map];omega),?_⟩
  generalize W:upd H2 Y _=H3
  have S3:=S2.putE W
  clear W
  obtain ⟨dx3,ob3⟩:=S3.get r
  obtain ⟨as3,els,hal,_⟩:=S3.get ls
  rw [length_map] at hal
  refine ⟨_,rfl,r,CR,dx3,_,_,rfl,ob3,B.cl,B.ns,Zfi,.inl ⟨rfl,_,SqL.of els⟩,_,rfl,ls,_,_,rfl,rfl,els,YZ (show _<=20000 by rw [length_cons,length_map];omega),?_⟩
  generalize W:upd H3 ls _=H4
  have S4:=W ▸ S3.stepApp ls els (S3.get sa)
  clear W
  obtain ⟨dx4,ob4⟩:=S4.get r
  refine ⟨_,rfl,r,CR,dx4,_,_,rfl,ob4,B.cl,B.nt,ZhO,.inl ⟨rfl,_,SqL.of (S4.get lt)⟩,_,rfl,lt,_,_,rfl,rfl,S4.get lt,YZ (show _<=20000 by rw [length_cons,length_map];omega),?_⟩
  generalize W:upd H4 lt _=H5
  have S5:=S4.putE W
  clear W
  obtain ⟨dx5,ob5⟩:=S5.get r
  obtain ⟨_,ln5,dt5,SA5⟩:=S5.get st
  obtain ⟨dxs5,obs5⟩:=SA5.ob
  refine ⟨_,rfl,r,CR,dx5,_,_,rfl,ob5,B.cl,B.nc,rf_c,.inl ⟨rfl,_,SqL.of (S5.get lc)⟩,_,rfl,r,CR,dx5,_,_,rfl,ob5,B.cl,B.nk,Ut,st,dxs5,_,rfl,obs5,ZM ln5 dt5 (by decide +kernel) (by decide +kernel),st,z,G,rfl,S5.get st,_,rfl,_,_,rfl,rfl,lc,_,_,rfl,rfl,S5.get lc,YZ (show _<=20000 by rw [length_cons,length_map];omega),?_⟩
  generalize W:upd H5 lc _=H6
  have S6:=S5.putE W
  clear W
  obtain ⟨dx6,ob6⟩:=S6.get r
  refine ⟨_,rfl,r,CR,dx6,_,_,rfl,ob6,B.cl,B.na,Vu,Y,_,rfl,.inl (SqL.of (S6.get Y)),_,_,rfl,rfl,?_⟩
  have hle:=J.len
  have ec:V.int ((z.length:Int) - (nds.length:Int))=V.int ((z.length - nds.length:Nat):Int):=congrArg V.int (by omega)
  have S7:=(((((((S6.drop sa).pull Pl).pull lc).pull lt).pull ls).pull Y).pull st).pull r
  have S8:Sep ((r,Zan CR (Uk st Y ls lt lc))::(st,Wb K CS z G)::(Y,Ye (V.non::(pls++[(⟨k,s,t2,z.length - nds.length⟩:ZP)]).map fun q=>V.int (q.ah:Int)))::(ls,UH ((pls++[(⟨k,s,t2,z.length - nds.length⟩:ZP)]).map (·.st)))::(lt,Ye (V.int 0::(pls++[(⟨k,s,t2,z.length - nds.length⟩:ZP)]).map fun q=>V.int (q.tb:Int)))::(lc,Ye (V.int 0::(pls++[(⟨k,s,t2,z.length - nds.length⟩:ZP)]).map fun q=>V.int (q.co:Int)))::(Pl,Xh)::Δ) H6:=by
   rw [map_append,map_append,map_append,map_append]
   show Sep (_::_::_::_::_::(lc,Ye (V.int 0::(pls.map (fun q=>V.int (q.co:Int))++[V.int ((z.length - nds.length:Nat):Int)])))::_) _
   rw [<- ec]
   exact S7
  have e9:(((V.non::pls.map fun q=>V.int (q.ah:Int))++[V.int (k:Int)]).length:Int) - 1=((pls.length+1:Nat):Int):=by rw [length_append,length_cons,length_map];show ((pls.length+1+1:Nat):Int) - 1=_;omega
  have:=q H6 z G t2 S8.roaC I2 J len2 tl2
  rw [<- e9] at this
  exact this
end
section
variable {P:Qj}{w:Qr}{K:Qa}{mg:Str->Option Qb}{base:Heap}{CR CS Pl:Addr}
def GoP (K:Qa)(CR CS Pl:Addr)(NS:List Str)(r:Addr)(pls:List ZP)(nds:List Nd)(tabs:List (Zn×V))(k:Nat)(s:Stp)(Δ:Rs)(H:Hp)(Q:VK):Prop :=
 Yj NS/\Sep ((r,XL K CR CS pls nds tabs)::(Pl,Xh)::Δ) H/\RInv NS pls nds tabs/\s.ok NS/\k<=pls.length/\pls.length<=10000/\nds.length<=90000/\tabs.length<=90000 /\
 ∀ (H':Hp) (nds':List Nd) (tabs':List (Zn×V)) (t':Nat),Sep ((r,XL K CR CS (pls++[⟨k,s,t',nds'.length - nds.length⟩]) nds' tabs')::(Pl,Xh)::Δ) H'->RInv NS (pls++[⟨k,s,t',nds'.length - nds.length⟩]) nds' tabs'->nds'.length<=nds.length+6->tabs'.length<=tabs.length+1->Q (.int ((pls.length+1:Nat):Int)) H'
def ZcC (K:Qa)(CR CS Pl:Addr):Sp:=fun vs H Q _=>∃(NS:List Str)(r:Addr)(pls:List ZP)(nds:List Nd)(tabs:List (Zn×V))(k:Nat)(x:Str)(v:V)(Δ:Rs),vs=[.ref r,.int (k:Int),.str x,v]/\GoP K CR CS Pl NS r pls nds tabs k (.set x v) Δ H Q
def ZdE (K:Qa)(CR CS Pl:Addr):Sp:=fun vs H Q _=>∃(NS:List Str)(r:Addr)(pls:List ZP)(nds:List Nd)(tabs:List (Zn×V))(k:Nat)(x:Str)(Δ:Rs),vs=[.ref r,.int (k:Int),.str x]/\GoP K CR CS Pl NS r pls nds tabs k (.clr x) Δ H Q
abbrev nRPu:List Str:=["self","place","name","value"]
abbrev Vd:List Str:=["self","place","name","value"]
theorem Zjf:Zo nRPu Vd (Zj c_Roads_put):=⟨rfl,rfl,rfl,by decide +kernel,rfl,by decide +kernel,by decide +kernel⟩
theorem ZkE {f:Addr}{fd:Qi}(F:Fun K "put" "Roads.put" c_Roads_put f fd)(T:ZX mg)(TR:Yi K CR)(z:DefM P w K mg base 10 CR "go_on" WK (ZfB K CR CS Pl)):FnOk P w K mg base ZH 11 f fd Vd (ZcC K CR CS Pl):=by
 refine F.ok Zjf (fun vs H Q E h=>?_) (fun cdv A outer s H vs Q E hr h=>?_)
 ·obtain ⟨NS,r,pls,nds,B,k,x,v,Δ,rfl,_⟩:=h;rfl
 obtain ⟨NS,r,pls,nds,B,k,x,v,Δ,rfl,N,J,I,hs,W,h1,h2,S,q⟩:=h
 obtain ⟨st,la,ls,lt,lc,SR⟩:=J.get r
 obtain ⟨dx,ob⟩:=SR.get r
 refine' ⟨?t,?h,?r⟩
 case h =>
  conv=>arg 2;whnf
  with_reducible refine' (Zf ?h1)
  case h1=>exact Zl (Yc z TR.cl hr (pv 0) (Zb (pv 1) (Zb (Yw (Zb ZK (Zb (pv 2) (Zb (pv 3) Za)))) Za)))
 try dsimp only [ZN,Cx.nox]
 refine ⟨_,rfl,r,dx,_,rfl,ob,ZG (by decide +kernel),_,rfl,_,rfl,_,rfl,(by show 3<=Qh;decide),fun t ht=>?_⟩
 exact ⟨NS,r,t,pls,nds,B,k,.set x v,Δ,rfl,N,(J.new ht _).drop t,Zh,I,hs,W,h1,h2,S,fun H' nds' G t' Y Z _ l1 l2=>q H' nds' G t' Y Z l1 l2⟩
abbrev nRCl:List Str:=["self","place","name"]
abbrev UP:List Str:=["self","place","name"]
theorem Zjh:Zo nRCl UP (Zj c_Roads_clear):=⟨rfl,rfl,rfl,by decide +kernel,rfl,by decide +kernel,by decide +kernel⟩
theorem ZjE {f:Addr}{fd:Qi}(F:Fun K "clear" "Roads.clear" c_Roads_clear f fd)(T:ZX mg)(TR:Yi K CR)(z:DefM P w K mg base 10 CR "go_on" WK (ZfB K CR CS Pl)):FnOk P w K mg base ZH 11 f fd UP (ZdE K CR CS Pl):=by
 refine F.ok Zjh (fun vs H Q E h=>?_) (fun cdv A outer s H vs Q E hr h=>?_)
 ·obtain ⟨NS,r,pls,nds,B,k,x,Δ,rfl,_⟩:=h;rfl
 obtain ⟨NS,r,pls,nds,B,k,x,Δ,rfl,N,J,I,hs,W,h1,h2,S,q⟩:=h
 obtain ⟨st,la,ls,lt,lc,SR⟩:=J.get r
 obtain ⟨dx,ob⟩:=SR.get r
 refine' ⟨?t,?h,?r⟩
 case h =>
  conv=>arg 2;whnf
  with_reducible refine' (Zf ?h1)
  case h1=>exact Zl (Yc z TR.cl hr (pv 0) (Zb (pv 1) (Zb (Yw (Zb ZK (Zb (pv 2) Za))) Za)))
 try dsimp only [ZN,Cx.nox]
 refine ⟨_,rfl,r,dx,_,rfl,ob,ZG (by decide +kernel),_,rfl,_,rfl,(by show 2<=Qh;decide),fun t ht=>?_⟩
 exact ⟨NS,r,t,pls,nds,B,k,.clr x,Δ,rfl,N,(J.new ht _).drop t,Zh,I,hs,W,h1,h2,S,fun H' nds' G t' Y Z _ l1 l2=>q H' nds' G t' Y Z l1 l2⟩
def ZeS (K:Qa)(CR CS:Addr):Sp:=fun vs H Q _=>∃(r dx:Addr)(H0:Hp)(Δ:Rs),vs=[.ref r]/\H=upd (upd H0 dx (.own r)) r (.ins CR dx [])/\H0 r=none/\H0 dx=none/\dx≠r/\Sep Δ H0/\∀ H',Sep ((r,XL K CR CS [] [.bare] [(QO 0,.bl true)])::Δ) H'->Q .non H'
abbrev nRIn:List Str:=["self"]
abbrev ZeV:List Str:=["self"]
theorem Znm:Zo nRIn ZeV (Zj c_Roads___init__):=⟨rfl,rfl,rfl,by decide +kernel,rfl,by decide +kernel,by decide +kernel⟩
theorem ZiK {f:Addr}{fd:Qi}(F:Fun K "__init__" "Roads.__init__" c_Roads___init__ f fd)(T:ZX mg)(I:Yi K CR)(TC:YG K CS)(J:ZfM P w K mg base 1 CS "Store" ["self"] (Zbz K CS))(G:DefM P w K mg base 2 CS "empty" ["self"] (ZeH K CS)):FnOk P w K mg base ZH 3 f fd ZeV (ZeS K CR CS):=by
 refine F.ok Znm (fun vs H Q E h=>?_) (fun cdv A outer s H vs Q E hr h=>?_)
 ·obtain ⟨r,dx,H0,Δ,rfl,_⟩:=h;rfl
 obtain ⟨r,dx,H0,Δ,rfl,rfl,h1,h2,h3,S0,q⟩:=h
 have S:=((S0.new h2 (.own r)).new (p:=r) (by rw [Zi h3.symm];exact h1) (.ins CR dx [])).drop dx
 generalize upd (upd H0 dx (.own r)) r (.ins CR dx [])=H at *
 refine' ⟨?t,?h,?r⟩
 case h =>
  conv=>arg 2;whnf
  with_reducible refine' (Zd ?h1 (Zd ?h2 (Zd ?h3 (Zd ?h4 (Zf ?h5)))))
  case h1=>exact Ub (pv 0) (Zjd J hr) rfl
  case h2=>exact Ub (pv 0) (Yg (Zb Ue Za)) rfl
  case h3=>exact Ub (pv 0) (Yg (Zb Ue Za)) rfl
  case h4=>exact Ub (pv 0) (Yg (Zb (Uj G TC.cl hr (ZC (pv 0) rfl)) Za)) rfl
  case h5=>exact Ub (pv 0) (Yg (Zb Ze Za)) rfl
 try dsimp only [ZN,Cx.nox]
 refine zs5 ?_
 intro zD zS zN4 zN3 zN2 zN1
 intro st dx2 hst W hne
 refine ⟨st,dx2,_,_,rfl,rfl,hst,W,hne,S,fun H1 _ S1=>⟨rfl,?_⟩⟩
 refine ⟨_,rfl,r,CR,dx,_,rfl,S1.get r,I.cl,I.nk,(by show 0 < 1000;decide),?_⟩
 generalize B:upd H1 r _=H2
 have S2:=S1.putE B
 clear B
 refine ⟨(by show 1<=Qh;decide),fun la hla=>?_⟩
 generalize B:upd H2 la _=H3
 have S3:=S2.newE hla B
 clear B
 refine ⟨_,rfl,r,CR,dx,_,rfl,S3.get r,I.cl,I.na,(by show 1 < 1000;decide),?_⟩
 generalize B:upd H3 r _=H4
 have S4:=S3.putE B
 clear B
 refine ⟨(by show 1<=Qh;decide),fun Y hls=>?_⟩
 generalize B:upd H4 Y _=H5
 have S5:=S4.newE hls B
 clear B
 refine ⟨_,rfl,r,CR,dx,_,rfl,S5.get r,I.cl,I.ns,(by show 2 < 1000;decide),?_⟩
 generalize B:upd H5 r _=H6
 have S6:=S5.putE B
 clear B
 obtain ⟨b0,ln,dt,SA⟩:=S6.get st
 obtain ⟨dxs,Z⟩:=SA.ob
 refine ⟨_,rfl,r,CR,dx,_,_,rfl,S6.get r,I.cl,I.nk,rfl,st,dxs,_,rfl,Z,ZM ln dt (by decide +kernel) (by decide +kernel),_,rfl,(by show 1<=Qh;decide),fun lt hlt=>?_⟩
 generalize B:upd H6 lt _=H7
 have S7:=S6.newE hlt B
 clear B
 refine ⟨_,rfl,r,CR,dx,_,rfl,S7.get r,I.cl,I.nt,(by show 3 < 1000;decide),?_⟩
 generalize B:upd H7 r _=H8
 have S8:=S7.putE B
 clear B
 refine ⟨(by show 1<=Qh;decide),fun lc hlc=>?_⟩
 generalize B:upd H8 lc _=H9
 have S9:=S8.newE hlc B
 clear B
 refine ⟨_,rfl,r,CR,dx,_,rfl,S9.get r,I.cl,I.nc,(by show 4 < 1000;decide),?_⟩
 generalize B:upd H9 r _=H10
 have S10:=S9.putE B
 clear B
 have S11:=S10.say Y (UH []) fun h z=>⟨[],z,rfl,fun i a s e=>by simp at e⟩
 have S12:=S11.say r (Zan CR (Uk st la Y lt lc)) fun h z=>⟨dx,z⟩
 have S13:=(((((S12.pull lc).pull lt).pull Y).pull la).pull st).pull r
 exact q _ (Sep.roaC (pls:=[]) S13)
end
def YO (pls:List ZP):Yv:=fun l h=>∃ as:List Addr,h l=some (.lst (as.map V.ref))/\as.length=pls.length+1/\(∀ a,as[0]?=some a->h a=some (.tup [.non,.non]))/\∀(i:Nat)(a:Addr)(q:ZP),as[i+1]?=some a->pls[i]?=some q->∃ b,h a=some (.tup [.int (q.ah:Int),.ref b])/\h b=some (.tup q.st.vs)
instance {pls:List ZP}:Up (YO pls):=⟨fun ⟨as,e,l,h0,h⟩ s=>⟨as,s _ _ e,l,fun a z=>s _ _ (h0 a z),fun i a q e1 e2=>let ⟨b,z1,z2⟩:=h i a q e1 e2;⟨b,s _ _ z1,s _ _ z2⟩⟩⟩
theorem Sep.stopApp {Δ I:Rs}{H:Hp}{pls:List ZP}{q:ZP}{a b:Addr}{as:List Addr}(S:Sep Δ H)(l:Addr)[P:Pull l Δ (YO pls) I](e:H l=some (.lst (as.map V.ref)))(ea:H a=some (.tup [.int (q.ah:Int),.ref b]))(W:H b=some (.tup q.st.vs)):Sep ((l,YO (pls++[q]))::I) (upd H l (.lst (as.map V.ref++[V.ref a]))):=by
 refine S.updR l _ (fun h ⟨as,e,_⟩=>⟨_,e,rfl⟩) fun h r l' h' e1 e2 e3=>?_
 obtain ⟨B,e4,hl,Y,hs⟩:=r
 have Z:=l' _ _ e4
 rw [e] at Z
 have e6:as.map V.ref=B.map V.ref:=HO.lst.inj (Qv Z)
 have im:∀ b o,h b=some (.tup o)->h' b=some (.tup o):=fun b o z=>e2 _ _ (fun y=>by rw [y,e4] at z;cases z) z
 refine ⟨B++[a],?_,by rw [length_append,length_append,hl];rfl,fun c z=>?_,fun i c p J G=>?_⟩
 ·rw [e1,map_append,e6];rfl
 ·rw [getElem?_append_left (by omega)] at z
  exact im _ _ (Y c z)
 ·by_cases hi:i < pls.length
  ·rw [getElem?_append_left (by omega)] at J
   rw [getElem?_append_left hi] at G
   obtain ⟨d,z1,z2⟩:=hs i c p J G
   exact ⟨d,im _ _ z1,im _ _ z2⟩
  ·rw [getElem?_append_right (by omega)] at J G
   have Y:i - pls.length=0:=by
    cases z:i - pls.length with
    | zero=>rfl
    | succ j=>rw [z] at G;simp at G
   rw [show i+1 - B.length=0 by omega] at J
   rw [Y] at G
   cases (show some a=some c from J)
   cases (show some q=some p from G)
   exact ⟨b,e3 _ _ (fun y=>by rw [y,e] at ea;cases ea) ea rfl,e3 _ _ (fun y=>by rw [y,e] at W;cases W) W rfl⟩
section
variable {P:Qj}{w:Qr}{K:Qa}{mg:Str->Option Qb}{base:Heap}{CR CS Pl:Addr}
def Zex (K:Qa)(CR CS Pl:Addr):Sp:=fun vs H Q _=>∃(NS:List Str)(r sl sa:Addr)(pls:List ZP)(nds:List Nd)(tabs:List (Zn×V))(k:Nat)(s:Stp)(Δ:Rs),vs=[.ref r,.ref sl,.int (k:Int),.ref sa]/\Yj NS/\Sep ((r,XL K CR CS pls nds tabs)::(Pl,Xh)::(sl,YO pls)::Δ) H/\H sa=some (.tup s.vs)/\RInv NS pls nds tabs/\s.ok NS/\k<=pls.length/\pls.length<=10000/\nds.length<=90000/\tabs.length<=90000 /\
 ∀ (H':Hp) (nds':List Nd) (tabs':List (Zn×V)) (q:ZP),Sep ((r,XL K CR CS (pls++[q]) nds' tabs')::(Pl,Xh)::(sl,YO (pls++[q]))::Δ) H'->RInv NS (pls++[q]) nds' tabs'->nds'.length<=nds.length+6->tabs'.length<=tabs.length+1->q.st.ok NS->Q (.bl true) H'
abbrev nGr:List Str:=["_law_roads","_law_stops","_law_place","_law_step_here","_law_told"]
abbrev Ziz:List Str:=["_law_roads","_law_stops","_law_place","_law_step_here"]
theorem scGr:Zo nGr Ziz (Zj s_l_grown):=⟨rfl,rfl,rfl,by decide +kernel,rfl,by decide +kernel,by decide +kernel⟩
theorem ZiH {f:Addr}{fd:Qi}(F:Fun K "_law_grown" "_law_grown" s_l_grown f fd)(T:ZX mg)(TR:Yi K CR)(DR_put:DefM P w K mg base 11 CR "put" Vd (ZcC K CR CS Pl))(Y:DefM P w K mg base 11 CR "clear" UP (ZdE K CR CS Pl)):FnOk P w K mg base ZH 12 f fd Ziz (Zex K CR CS Pl):=by
 refine F.ok scGr (fun vs H Q E h=>?_) (fun cdv A outer s H vs Q E hr h=>?_)
 ·obtain ⟨NS,r,B,sa,pls,nds,Z,k,s,Δ,rfl,_⟩:=h;rfl
 obtain ⟨NS,r,B,sa,pls,nds,Z,k,s,Δ,rfl,N,S0,es,I,hs,hk,h1,h2,h3,q⟩:=h
 obtain ⟨st,la,ls,lt,lc,SR⟩:=S0.get r
 obtain ⟨dx,ob⟩:=SR.get r
 refine' ⟨?t,?h,?r⟩
 case h =>
  conv=>arg 2;whnf
  with_reducible refine' (Zd (ZL ?h1 (Zf ?h2) (Zf ?h3)) (Zd ?h4 (Zf ?h5)))
  case h1=>exact ZE ZU (Zr Yd (pv 3) Ze (fun _ _=>rfl)) ZK (ZB _)
  case h2=>exact Zt (i:=4) scGr.nd rfl (Qy rfl) (Yc DR_put TR.cl hr (pv 0) (Zb (pv 2) (Zb (Zr Yd (pv 3) Ze (fun _ _=>rfl)) (Zb (Zr Yd (pv 3) Ze (fun _ _=>rfl)) Za))))
  case h3=>exact Zt (i:=4) scGr.nd rfl (Qy rfl) (Yc Y TR.cl hr (pv 0) (Zb (pv 2) (Zb (Zr Yd (pv 3) Ze (fun _ _=>rfl)) Za)))
  case h4=>exact ZA (Yz Qx QC QD Yl (pv 1) (Zb (Yw (Zb (pv 2) (Zb (pv 3) Za))) Za))
  case h5=>exact Zl (Uy (Zv ZdK rfl T.isinstance (by decide +kernel) (Zb (pv 4) (Zb (Zby rfl T.int (by decide +kernel) (v:=.ty "int") rfl) Za))) (Uy (Zmw (Zv ZdK rfl T.isinstance (by decide +kernel) (Zb (pv 4) (Zb (Zby rfl T.bool (by decide +kernel) (v:=.ty "bool") rfl) Za)))) (Zbc (Xa ZU (pv 4) (Zs Ys (Zv Zy rfl T.len QB (Zb (pv 1) Za)) Ze) (ZB _)))))
 try dsimp only [ZN,Cx.nox]
 refine zs3 ?_
 intro zD zS zN2 zN1
 have S1:=((S0.imm es rfl).pull Pl).pull r
 cases s with
 | set x v =>
  refine ⟨_,rfl,sa,_,_,_,rfl,rfl,SqT.of es,ZJ (j:=0) rfl,rfl,_,rfl,?_⟩
  rw [decide_eq_true rfl]
  refine Yo ⟨_,rfl,r,dx,_,rfl,ob,ZG (by decide +kernel),_,rfl,_,rfl,sa,_,_,_,rfl,rfl,SqT.of es,ZJ (j:=1) rfl,_,rfl,sa,_,_,_,rfl,rfl,SqT.of es,ZJ (j:=2) rfl,?_⟩
  refine ⟨NS,r,pls,nds,Z,k,x,v,_,rfl,N,S1,I,hs,hk,h1,h2,h3,fun H2 z W t2 S2 I2 l1 l2=>?_⟩
  obtain ⟨as,S,hal,_⟩:=S2.get B
  refine ⟨_,rfl,.inl ⟨rfl,_,SqL.of S⟩,_,rfl,_,rfl,(by show 2<=Qh;decide),fun t ht=>?_⟩
  generalize J:upd H2 t _=H3
  have S3:=S2.newE ht J
  have G:H3 B=some (.lst (as.map V.ref)):=by rw [<- J,Zi (Zp S ht)];exact S
  clear J
  refine ⟨B,_,_,rfl,rfl,G,YZ (show _<=20000 by rw [length_map];omega),?_⟩
  generalize J:upd H3 B _=H4
  have S4:=J ▸ Sep.stopApp (q:=⟨k,.set x v,t2,z.length - nds.length⟩) S3 B G (S3.get t) (S3.get sa)
  have els4:H4 B=some (.lst (as.map V.ref++[V.ref t])):=by rw [<- J];exact Zh
  clear J
  refine ⟨_,rfl,_,_,_,_,rfl,.int _,rfl,true,rfl,Yo ⟨_,rfl,_,_,_,_,rfl,.int _,rfl,false,rfl,true,rfl,Yo ?_⟩⟩
  refine ⟨_,rfl,_,rfl,B,_,rfl,.inl (SqL.of els4),_,_,rfl,rfl,rfl,?_⟩
  rw [decide_eq_true (show V.int ((pls.length+1:Nat):Int)=V.int (((as.map V.ref++[V.ref t]).length:Nat) - 1:Int) from congrArg V.int (by rw [length_append,length_map,hal];show _=((pls.length+1+1:Nat):Int) - 1;omega))]
  exact q H4 z W _ (((((S4.drop t).drop sa).pull B).pull Pl).pull r) I2 l1 l2 hs
 | clr x =>
  refine ⟨_,rfl,sa,_,_,_,rfl,rfl,SqT.of es,ZJ (j:=0) rfl,rfl,_,rfl,?_⟩
  rw [show decide (V.str "clear"=V.str (QI "set"))=false by decide +kernel]
  refine Yh ⟨_,rfl,r,dx,_,rfl,ob,ZG (by decide +kernel),_,rfl,_,rfl,sa,_,_,_,rfl,rfl,SqT.of es,ZJ (j:=1) rfl,?_⟩
  refine ⟨NS,r,pls,nds,Z,k,x,_,rfl,N,S1,I,hs,hk,h1,h2,h3,fun H2 z W t2 S2 I2 l1 l2=>?_⟩
  obtain ⟨as,S,hal,_⟩:=S2.get B
  refine ⟨_,rfl,.inl ⟨rfl,_,SqL.of S⟩,_,rfl,_,rfl,(by show 2<=Qh;decide),fun t ht=>?_⟩
  generalize J:upd H2 t _=H3
  have S3:=S2.newE ht J
  have G:H3 B=some (.lst (as.map V.ref)):=by rw [<- J,Zi (Zp S ht)];exact S
  clear J
  refine ⟨B,_,_,rfl,rfl,G,YZ (show _<=20000 by rw [length_map];omega),?_⟩
  generalize J:upd H3 B _=H4
  have S4:=J ▸ Sep.stopApp (q:=⟨k,.clr x,t2,z.length - nds.length⟩) S3 B G (S3.get t) (S3.get sa)
  have els4:H4 B=some (.lst (as.map V.ref++[V.ref t])):=by rw [<- J];exact Zh
  clear J
  refine ⟨_,rfl,_,_,_,_,rfl,.int _,rfl,true,rfl,Yo ⟨_,rfl,_,_,_,_,rfl,.int _,rfl,false,rfl,true,rfl,Yo ?_⟩⟩
  refine ⟨_,rfl,_,rfl,B,_,rfl,.inl (SqL.of els4),_,_,rfl,rfl,rfl,?_⟩
  rw [decide_eq_true (show V.int ((pls.length+1:Nat):Int)=V.int (((as.map V.ref++[V.ref t]).length:Nat) - 1:Int) from congrArg V.int (by rw [length_append,length_map,hal];show _=((pls.length+1+1:Nat):Int) - 1;omega))]
  exact q H4 z W _ (((((S4.drop t).drop sa).pull B).pull Pl).pull r) I2 l1 l2 hs
end
section
variable {P:Qj}{w:Qr}{K:Qa}{mg:Str->Option Qb}{base:Heap}{CR CS Pl:Addr}
end
section
variable {P:Qj}{w:Qr}{K:Qa}{mg:Str->Option Qb}{base:Heap}{C Pl Pp:Addr}{NS:List Str}
abbrev Xn:Yv:=ZcV Xq XX
theorem Sep.afterPairs {st W Y:Addr}{nds:List Nd}{B:List (Zn×V)}{Δ:Rs}{H H':Hp}(S:StoreAt K C st W Y H nds B)(b0:nds[0]?=some .bare)(L:LamAt H Pp Xq XX)
 (I:∀ H' nds' G,StoreAt K C st W Y H' nds' G->nds'[0]?=some .bare->LamAt H' Pp Xq XX->Kq [W,Y,Pp] H H'->Sep ((st,Wb K C nds' G)::(Pp,Xn)::Δ) H') (g:Grown Pp H H') (L':LamAt H' Pp Xq XX):Sep ((st,Wb K C nds B)::(Pp,Xn)::Δ) H':=by
 obtain ⟨tb,J⟩:=L.tbl
 have no:∀ {a:Addr} {o:HO},H a=some o->(∀ tb,o≠.tbl tb)->a ∉ [Pp]:=fun h1 h2 z=>by rw [mem_singleton.mp z,J] at h1;exact h2 _ (Qv h1).symm
 obtain ⟨dx,ob⟩:=S.ob
 obtain ⟨as,nl,_⟩:=S.nl
 exact I H' nds B (S.kq g.kq (g.tf J) (no ob (by intro tb z;cases z)) (no nl (by intro tb z;cases z)) (no S.tb (by intro tb z;cases z))) b0 L' (g.kq.sub fun b Z=>by simp at Z ⊢;exact .inr (.inr Z))
def Zaa (K:Qa)(C Pp:Addr):Sp:=fun vs H Q _=>∃(NS:List Str)(st:Addr)(nds:List Nd)(tabs:List (Zn×V))(t:Nat)(F:Str->Option V)(Δ:Rs),Yj NS/\vs=[.ref st,iN t]/\Sep ((st,Wb K C nds tabs)::(Pp,Xn)::Δ) H/\(ZS tabs (QO (t:Int))).isSome=true/\Tri NS nds F 5 0 0 t /\
 ∀ (l:Addr) (H':Hp) (ps:List (Str×V)),Sep ((l,PLs ps)::(st,Wb K C nds tabs)::(Pp,Xn)::Δ) H'->PsOf NS F 0 0 ps->Wl ps->Q (.ref l) H'
theorem Zkk {f:Addr}{fd:Qi}{k:Nat}{ps:List Str}(h:∀ NS,Yj NS->FnOk P w K mg base ZH k f fd ps (Zap K C Pp NS)):FnOk P w K mg base ZH k f fd ps (Zaa K C Pp) :=
 (FnOk.ex h).conv fun vs H Q E ⟨NS,st,nds,B,t,F,Δ,N,e,S,h1,h2,q⟩=>by
  obtain ⟨ln,dt,SA,b0,L,G⟩:=S.stoLam
  refine ⟨NS,N,st,ln,dt,nds,B,t,F,e,SA,h1,h2,L,fun l H' ts ps hl g L' I hpt Z J=>q l H' ps ?_ Z J⟩
  have g2:Grown Pp H (but H' l):=fun b o nb e=>by rw [ZaV (Zp e hl)];exact g b o nb e
  have L2:LamAt (but H' l) Pp Xq XX:=by
   rcases L' with z | ⟨c,W,Y⟩
   ·exact .inl (by rw [ZaV (fun y=>by rw [y,I] at z;cases z)];exact z)
   ·exact .inr ⟨c,by rw [ZaV (fun y=>by rw [y,I] at W;cases W)];exact W,by rw [ZaV (fun y=>by rw [y,I] at Y;cases Y)];exact Y⟩
  exact (Sep.made (Sep.afterPairs SA b0 L G g2 L2) Zmk ZlS I).pls hpt
def Zeq (K:Qa)(C:Addr):Sp:=fun vs H Q _=>∃(NS:List Str)(st:Addr)(nds:List Nd)(tabs:List (Zn×V))(t:Nat)(x:Str)(F:Str->Option V),Yj NS/\vs=[.ref st,iN t,.str x]/\Wb K C nds tabs st H/\(ZS tabs (QO (t:Int))).isSome=true/\Tri NS nds F 5 0 0 t/\x∈NS/\∀ H',Same H H'->Q ((F x).getD .non) H'
theorem Zmo {f:Addr}{fd:Qi}{k:Nat}{ps:List Str}(h:FnOk P w K mg base ZH k f fd ps (WW K C)):FnOk P w K mg base ZH k f fd ps (Zeq K C) :=
 h.conv fun vs H Q E ⟨NS,st,nds,B,t,x,F,N,e,⟨b0,W,Y,S⟩,h1,h2,G,q⟩=>by
  obtain ⟨I,z,n,e1,e2,Z,e4,J⟩:=UQ N h2 G
  exact ⟨st,W,Y,nds,B,t,x,6,I,z,n,e,S,h1,N.len x G,N.lo x G,by decide,e1,e2,Z,e4,fun H' s=>by rw [J];exact q H' s⟩
end
section
variable {P:Qj}{w:Qr}{K:Qa}{mg:Str->Option Qb}{base:Heap}{CR CS Pl Pp:Addr}
abbrev nRLk:List Str:=["self","place","name"]
abbrev Zcl:List Str:=["self","place","name"]
theorem ZmT:Zo nRLk Zcl (Zj c_Roads_looked):=⟨rfl,rfl,rfl,by decide +kernel,rfl,by decide +kernel,by decide +kernel⟩
def Zjn (CR:Addr):Sp:=fun vs H Q _=>∃(r st la ls lt lc dx:Addr),vs=[.ref r]/\H r=some (.ins CR dx (Uk st la ls lt lc))/\Q (.ref st) H
abbrev nRSo:List Str:=["self"]
abbrev ZfY:List Str:=["self"]
theorem ZmV:Zo nRSo ZfY (Zj c_Roads_store):=⟨rfl,rfl,rfl,by decide +kernel,rfl,by decide +kernel,by decide +kernel⟩
theorem Zlo {f:Addr}{fd:Qi}(F:Fun K "store" "Roads.store" c_Roads_store f fd)(T:ZX mg)(z:Yi K CR):FnOk P w K mg base ZH 1 f fd ZfY (Zjn CR):=by
 refine F.ok ZmV (fun vs H Q E h=>?_) (fun S A outer s H vs Q E W h=>?_)
 ·obtain ⟨r,st,G,J,lt,I,dx,rfl,_⟩:=h;rfl
 obtain ⟨r,st,G,J,lt,I,dx,rfl,B,q⟩:=h
 refine' ⟨?t,?h,?r⟩
 case h =>
  conv=>arg 2;whnf
  with_reducible refine' (Zf ?h1)
  case h1=>exact Zl (ZC (pv 0) rfl)
 try dsimp only [ZN,Cx.nox]
 exact ⟨_,rfl,r,CR,dx,_,_,rfl,B,z.cl,z.nk,Ut,q⟩
def Zfx (K:Qa)(CR CS Pp:Addr):Sp:=fun vs H Q _=>∃(NS:List Str)(r:Addr)(pls:List ZP)(nds:List Nd)(tabs:List (Zn×V))(k:Nat)(F:Str->Option V)(Δ:Rs),vs=[.ref r,.int (k:Int)]/\Yj NS/\Sep ((r,XL K CR CS pls nds tabs)::(Pp,Xn)::Δ) H/\RInv NS pls nds tabs/\k<=pls.length/\(envs pls)[k]?=some F /\
 ∀ (fl:Addr) (H':Hp) (qs:List (Str×V)),Sep ((fl,PLs qs)::(r,XL K CR CS pls nds tabs)::(Pp,Xn)::Δ) H'->PsOf NS F 0 0 qs->XR qs->Q (.ref fl) H'
abbrev nRAt:List Str:=["self","place"]
abbrev Ve:List Str:=["self","place"]
theorem Zjb:Zo nRAt Ve (Zj c_Roads_all_at):=⟨rfl,rfl,rfl,by decide +kernel,rfl,by decide +kernel,by decide +kernel⟩
theorem ZlV {f:Addr}{fd:Qi}(F:Fun K "all_at" "Roads.all_at" c_Roads_all_at f fd)(T:ZX mg)(TR:Yi K CR)(TC:YG K CS)(z:DefM P w K mg base 9 CR "table" Xm (Wo K CR CS))(B:DefM P w K mg base 9 CS "pairs" ZdG (Zaa K CS Pp)):FnOk P w K mg base ZH 10 f fd Ve (Zfx K CR CS Pp):=by
 refine F.ok Zjb (fun vs H Q E h=>?_) (fun cdv A outer s H vs Q E hr h=>?_)
 ·obtain ⟨NS,r,pls,nds,J,k,G,Δ,rfl,_⟩:=h;rfl
 obtain ⟨NS,r,pls,nds,J,k,G,Δ,rfl,N,S0,I,hk,hG,q⟩:=h
 have R:=S0.get r
 obtain ⟨st,la,ls,lt,lc,S⟩:=S0.roaO
 obtain ⟨dx,ob⟩:=S.get r
 have ST:=S.get st
 obtain ⟨b0,ln,dt,SA⟩:=id ST
 obtain ⟨Z,W⟩:=SA.ob
 obtain ⟨g1,g2,g3⟩:=I.tr k G _ hG (Vl hk)
 refine' ⟨?t,?h,?r⟩
 case h =>
  conv=>arg 2;whnf
  with_reducible refine' (Zf ?h1)
  case h1=>exact Zl (Yc B TC.cl hr (ZC (pv 0) rfl) (Zb (Yc z TR.cl hr (pv 0) (Zb (pv 1) Za)) Za))
 try dsimp only [ZN,Cx.nox]
 refine ⟨_,rfl,r,CR,dx,_,_,rfl,ob,TR.cl,TR.nk,Ut,st,Z,_,rfl,W,ZM ln dt (by decide +kernel) (by decide +kernel),_,rfl,r,dx,_,rfl,ob,ZG (by decide +kernel),_,rfl,r,pls,nds,J,k,rfl,R,hk,NS,st,nds,J,tbN pls k,G,_,N,rfl,(S.pull Pp).pull st,g1,g2,fun fl H6 qs S6 Y hsr=>?_⟩
 have S7:=(((((((S6.pull Pp).pull lc).pull lt).pull ls).pull la).pull st).pull r).roaC
 exact q fl H6 qs ((S7.pull fl)) Y hsr
end
end K23
namespace L2
open PySem PySem.Spec PyProof.Rows
section
variable {X:Cx}{pins:List (Addr×Obj)}{σ:St}{H:Hp}{s:Qd}{d:Addr}{o:Obj}{kvs:List (Zn×V)}
end
section
variable {X:Cx}{tg:Expr}
end
end L2
namespace L2
open PySem PySem.W PySem.Spec PyProof.Rows
section
variable {X:Cx}
end
end L2
namespace L2
open PySem
end L2
namespace L2
open PySem PySem.W PySem.Spec PyProof.Rows
section
variable {X:Cx}
end
end L2
namespace L2
open PySem PySem.Spec PyProof.Rows
section
variable {X:Cx}
end
theorem ZbH {P:Nat->Bool}{x:Str}(h:x.cps.toList.all P=true)(z:∀ c,P c=true->c < 1114112):Ou x=true:=by
 show x.cps.all (fun c=>decide (c < 1114112))=true
 rw [<- Array.all_toList,all_eq_true]
 exact fun c B=>decide_eq_true (z c (all_eq_true.mp h c B))
theorem Zgf {v:V}(h:YW v):(VZ v).canLay0=true:=by
 cases v<;>first | rfl | exact ZbH h.2 (fun c z=>by unfold VQ at z;simp at z;omega) | exact h.elim
abbrev vMro:List Value:=[.type "ValueError",.type "Exception",.type "BaseException",.type "object"]
inductive VT:List Qb->Prop
 | base:VT vMro
 | own {a:Addr} {r:List Qb}:VT r->VT (.ref a::r)
def Zff:List Qb->Bool
 | .ref _::r=>Zff r
 | l=>decide (l=vMro)
theorem VT.of:∀{l:List Qb},Zff l=true->VT l
 | [],h=>nomatch (of_decide_eq_true h:([]:List Qb)=vMro)
 | v::r,h=>by cases v<;>first | exact .own (VT.of h) | (have e:=of_decide_eq_true h;rw [e];exact .base)
theorem VT.has {l:List Qb}(T:VT l){x:String}{b:Bool}(z:vMro.contains (.type x)=b):l.contains (.type x)=b:=by
 induction T with
 | base=>exact z
 | own _ ih=>rw [contains_cons,ih];rfl
theorem VT.refuse {l:List Qb}(T:VT l)(z:Qb):refuseLoop z "__setattr__" l=pure ():=by
 induction T with
 | base=>exact Jx.passes z
 | own _ ih=>rw [refuseLoop_ref];exact ih
def ZcK (K:Qa)(C:Addr):Bool:=match K.lookup C with
 | some ⟨.type "type",_,.cls cd,sl⟩=>(match cd.mro,sl.toList with
  | .ref C'::bm,[_,_,_,_,some (.builtin n),_]=>C' == C&&!cd.hasDel&&cd.hasDict&&n == "ValueError.__new__"&&Zff bm
  | _,_=>false)
 | _=>false
theorem VL {K:Qa}{h:Heap}{C:Addr}(X:K.In h)(q:ZcK K C=true):∃ nm G N bs bm sn sub ab col dd k0 k1 k2 k3 k5,
 h.get? C=some (GN nm G C N bs bm true sn sub ab col dd k0 k1 k2 k3 k5 "ValueError.__new__")/\VT bm:=by
 unfold ZcK at q
 split at q
 ·rename_i dd Y W ho
  split at q
  ·rename_i C' bm k0 k1 k2 k3 n k5 S J
   simp only [QM,beq_iff_eq,Ot] at q
   obtain ⟨⟨⟨⟨rfl,z⟩,B⟩,rfl⟩,ht⟩:=q
   obtain ⟨nm,bs,Z,ns,G,hd,sn,sub,ab,col,del⟩:=Y
   dsimp only at S z B
   subst S z B
   have I:W=#[k0,k1,k2,k3,some (.builtin "ValueError.__new__"),k5]:=by
    obtain ⟨l⟩:=W
    simp only at J
    rw [J]
   subst I
   exact ⟨nm,G,ns,bs,bm,sn,sub,ab,col,dd,k0,k1,k2,k3,k5,X _ _ ho,.of ht⟩
  ·cases q
 ·cases q
section
variable {prog:Qj}{w:Qr}{A:QG}{E:Qb->Qd->Prop}{h:Heap}{g:Array RS}{d:Drawn}{t:Nat}{os:OsState}
variable {nm q:Str}{C N:Addr}{bs bm:List Qb}{sn:List Str}{sub:List Qb}{ab:Bool}{col:Option Bool}{dd:Option Addr}{k0 k1 k2 k3 k5:Option Qb}
theorem ZdU {M:Rm}(T:VT bm){rest:List Qb}{Q:Unit->Qd->Prop}(B:h.get? C=some (GN nm q C N bs bm true sn sub ab col dd k0 k1 k2 k3 k5 "ValueError.__new__"))
 (I:Q () ⟨h,g,d,t,os⟩):Qp M A (Go "ValueError.__new__" ⟨.ref C::rest,[]⟩) Q E ⟨h,g,d,t,os⟩:=by
 have F:=GF
 have z:(Ql C::bm).contains (.type "ValueError")=true:=by rw [contains_cons,T.has F.hasB,Sn]
 have G:=F.noStar
 simp only [Go,F.newKind,F.newSplit,F.newRow]
 repeat (first | refine QJ B ?_ | (refine Gm B ?_;rw [z]) | refine wpAny_staticBase_exc B ?_ | refine OO B ?_ | simp only [bne_self_eq_false,GD,if_false] | wp_step)
 exact I
theorem Znh {R:RC->Qd->Prop}(T:VT bm){rest:List Qb}(I:h.get? C=some (GN nm q C N bs bm true sn sub ab col dd k0 k1 k2 k3 k5 "ValueError.__new__"))
 (Y:R (.ok (.ret (.ref (h.objs.size+1)))) ⟨(h.push { cls:=.type "tuple",data:=.seq rest.toArray }).push
  {cls:=.ref C,data:=.fields #[.ref h.objs.size,.none,.none,.none,.bool false,.none] },g,d,t,os⟩) (W:rest.length<=Qh) :
 JE (Qs prog w) A (.builtin "ValueError.__new__" ⟨.ref C::rest,[]⟩) R ⟨h,g,d,t,os⟩:=by
 have F:=GF
 have G:=F.ends
 have z:(Ql C::bm).contains (.type "ValueError")=true:=by rw [contains_cons,T.has F.hasB,Sn]
 have B:(Ql C::bm).contains (.type "AttributeError")=false:=by rw [contains_cons,T.has F.noAttr];rfl
 have S:(Ql C::bm).contains (.type "NameError")=false:=by rw [contains_cons,T.has F.noName];rfl
 refine codeAny_builtinAt F.entry ?_
 unfold Ji.«BaseException.__new__»
 refine Ni ?_
 show PySem.wpAt _ _ _ (stack >>= _) _ _ _
 refine Ni (PySem.wpAt_stack fun p J=>Rk ?_)
 wp_walk
 refine Rk ?_
 rw [F.owner]
 repeat (first | with_reducible refine wpAny_madeHere_exc F.canon I ?_ | with_reducible refine QJ I ?_ | (with_reducible refine Gm I ?_;first | rw [z] | rw [B] | rw [S]) | wp_step)
 show R _ _
 rw [Jo]
 exact Y
theorem ZdY (T:VT bm){rest:List Qb}{W:Addr}{oI:Obj}{Q:Fin->Qd->Prop}
   (J:h.get? C=some (GN nm q C N bs bm true sn sub ab col dd k0 k1 k2 k3 k5 "ValueError.__new__")) (LI:GB (Qs prog w) h (QU (.ref C) "__init__") (some (.ref W)))
   (S:h.get? W=some oI) (Z:oI.cls=.type "function")
   (hq:∀ h' e,Heap.MadeExcOf h h' e (.ref C) rest->h.objs.size<=e ->
     Qp (Qs prog w) A (call (.ref W) (.ref e::rest)) (fun r s'=>r=.none/\Q (.done (.ret (.ref e))) s') E ⟨h',g,d,t,os⟩) (I:rest.length<=Qh) :
   Qp (Qs prog w) A (Ji.«type.__call__» ⟨.ref C::rest,[]⟩) Q E ⟨h,g,d,t,os⟩:=by
 have F:=GF
 repeat (first | with_reducible refine QJ J ?_ | with_reducible refine OO J ?_ | wp_step)
 refine codeAny_call_builtin_code (Jz _ F.quiet) (ZdU T J ?_)
 refine Znh T J ?_ I
 show Qp _ _ _ _ _ _
 have G:=Qc { cls:=.ref C,data:=.fields #[.ref h.objs.size,.none,.none,.none,.bool false,.none] }
   (Qc { cls:=.type "tuple",data:=.seq rest.toArray } J)
 have z:=Qc { cls:=.ref C,data:=.fields #[.ref h.objs.size,.none,.none,.none,.bool false,.none] }
   (Qc { cls:=.type "tuple",data:=.seq rest.toArray } S)
 have B:((h.push { cls:=.type "tuple",data:=.seq rest.toArray }).push
     { cls:=.ref C,data:=.fields #[.ref h.objs.size,.none,.none,.none,.bool false,.none] }).get? (h.objs.size+1)=some
     { cls:=.ref C,data:=.fields #[.ref h.objs.size,.none,.none,.none,.bool false,.none] }:=by heap_get
 have Y:(Ql C::bm).contains (.ref C)=true:=by simp
 unfold isInstance
 repeat (first | with_reducible refine QJ B ?_ | (with_reducible refine Gm G ?_;rw [Y]) | wp_step)
 show Qp _ _ (QU (.ref C) _) _ _ _
 refine (LI.keeps (h':=(h.push { cls:=.type "tuple",data:=.seq rest.toArray }).push { cls:=.ref C,data:=.fields #[.ref h.objs.size,.none,.none,.none,.bool false,.none] }) fun b o e=>Qc _ (Qc _ e)) _ _ _ _ (fun _ _ e=>e) ?_
 refine Gf (Qe ?_)
 unfold bindSpecial
 refine Qe (Op (T:="function") ⟨_,z,Z⟩ ?_)
 rw [if_pos (by decide)]
 refine Qu (Qe (QX (hq _ (h.objs.size+1) ⟨fun b o hb=>Qc _ (Qc _ hb),Pc (GA _),h.objs.size,B,Pc (Qg _),?_⟩ (GA _)) (fun r s' hr=>?_) fun _ _ x=>x))
 · exact Qc _ (Ov rfl rfl)
 · obtain ⟨rfl,hQ⟩:=hr
   wp_walk
   exact hQ
theorem Zmx (T:VT bm){rest:List Qb}{I:Addr}{W:Obj}{Q:Qb->Qd->Prop}
 (B:h.get? C=some (GN nm q C N bs bm true sn sub ab col dd k0 k1 k2 k3 k5 "ValueError.__new__")) (Y:GB (Qs prog w) h (QU (.ref C) "__init__") (some (.ref I)))
 (G:h.get? I=some W) (S:W.cls=.type "function")
 (hq:∀ h' e,Heap.MadeExcOf h h' e (.ref C) rest->h.objs.size<=e ->
  Qp (Qs prog w) (A.under (.builtin "type.__call__" ⟨.ref C::rest,[]⟩)) (call (.ref I) (.ref e::rest)) (fun r s'=>r=.none/\Q (.ref e) s') E ⟨h',g,d,t,os⟩) (z:rest.length<=Qh) :
 Qp (Qs prog w) A (call (.ref C) rest) Q E ⟨h,g,d,t,os⟩:=by
 have f1:=tc_lookup
 have f2:=tc_bind (.ref C)
 have hT:(⟨h,g,d,t,os⟩:Qd).TypeIs (.ref C) "type":=⟨_,B,rfl⟩
 refine JV (Nf ?_)
 show Qp _ _ (callAny (.ref C) _) _ _ _
 repeat (any_goals (first | assumption | with_reducible refine QJ B ?_ | wp_step))
 refine ⟨rfl,?_⟩
 refine codeAny_call_builtin_at (Jz _ (by decide +kernel)) entry_typeCall (wpAny_check_type_call_sub B (ZdY T B Y G S (fun h' e Z J=>?_) z))
 exact hq h' e Z J
theorem ZjQ {M:Rm}{env:Env}{s:Qd}{x:Sem Qb}{Q:Flow->Qd->Prop}(T:VT bm)(hh:A.handled=none)
 (h:Qp M A x (fun v z=>∃ e I vs,v=.ref e/\z.heap.get? C=some (GN nm q C N bs bm true sn sub ab col dd k0 k1 k2 k3 k5 "ValueError.__new__") /\
  z.heap.get? e=some I/\I.cls=.ref C/\I.data=.fields vs/\vs[1]?=some .none/\E (.ref e) z) E s) :
 Qp M A (raiseStmt env (some x) none) Q E s:=by
 have J:(Ql C::bm).contains (.type "BaseException")=true:=by rw [contains_cons,T.has GF.hasBase,Sn]
 unfold raiseStmt
 refine Qe (QX h (fun v z G=>?_) fun _ _ x=>x)
 obtain ⟨e,I,vs,rfl,S,Y,B,W,h1,hE⟩:=G
 obtain ⟨oc,Z,oda,osl⟩:=I
 dsimp only at B W
 subst B W
 obtain ⟨hp,g,d,tk,os⟩:=z
 repeat (first | with_reducible refine QJ Y ?_ | with_reducible refine QJ S ?_ | (with_reducible refine Gm S ?_;rw [J]) | with_reducible refine Tl Y rfl h1 ?_ | wp_step)
 exact wpAny_raiseNew_none hh hE
end
section
variable {prog:Qj}{w:Qr}{A:QG}{E:Qb->Qd->Prop}{h:Heap}{g:Array RS}{d:Drawn}{t:Nat}{os:OsState}
variable {nm q:Str}{C N x:Addr}{bs bm:List Qb}{sn:List Str}{sub:List Qb}{ab:Bool}{col:Option Bool}{dd:Option Addr}{k0 k1 k2 k3 k5:Option Qb}{name:Str}{v:Qb}{o:Obj}
theorem ZfX {M:Rm}{z:Qb}{Q:Unit->Qd->Prop}(T:VT bm)
 (I:h.get? C=some (GN nm q C N bs bm true sn sub ab col dd k0 k1 k2 k3 k5 "ValueError.__new__")) (W:h.get? x=some o) (J:o.cls=.ref C) (S:Q () ⟨h,g,d,t,os⟩) :
 Qp M A (Go "object.__setattr__" ⟨[.ref x,z,v],[]⟩) Q E ⟨h,g,d,t,os⟩:=by
 have B:=Jx
 have G:(Ql C::bm).contains (.type "object")=true:=by rw [contains_cons,T.has B.hasOwner,Sn]
 have Y:=B.args (.ref x) z v
 simp only [Go,B.kind,B.split]
 refine Qe ?_
 ·unfold isInstance
  repeat (first | (with_reducible refine QJ W ?_;rw [J]) | (with_reducible refine Gm I ?_;rw [G]) | wp_step)
  exact S
theorem ZjW {Q:Unit->Qd->Prop}(T:VT bm)(hC:h.get? C=some (GN nm q C N bs bm true sn sub ab col dd k0 k1 k2 k3 k5 "ValueError.__new__"))
   (LS:GB (Qs prog w) h (QU (.ref C) "__setattr__") (some (.builtin "object.__setattr__"))) (LN:GB (Qs prog w) h (QU (.ref C) name) none)
   (I:h.get? x=some o) (hc:o.cls=.ref C) (hdn:o.dict=none) (hnc:∀ c,o.data≠.cls c)
   (hq:∀ h' tk',h'.get? x=some { o with dict:=some h.objs.size }->h'.Ns1 h.objs.size (fun y=>if y=name then some v else none)->(∀ b ob,b≠x->h.get? b=some ob->h'.get? b=some ob)->Q () ⟨h',g,d,tk',os⟩) :
   Qp (Qs prog w) A (setAttr (.ref x) name v) Q E ⟨h,g,d,t,os⟩:=by
 have SF:=Jx
 have f3:=SF.slot.bind (.ref x)
 unfold setAttr callSpecial? specialOf
 have LS':∀ {tk:Nat} {A:QG} {Q:Option Qb->Qd->Prop} {E:Qb->Qd->Prop},Q (some (.builtin "object.__setattr__")) ⟨h,g,d,tk,os⟩->Qp (Qs prog w) A (QU (.ref C) "__setattr__") Q E ⟨h,g,d,tk,os⟩:=fun q=>LS _ _ _ _ (fun _ _ e=>e) q
 have LN':∀ {tk:Nat} {A:QG} {Q:Option Qb->Qd->Prop} {E:Qb->Qd->Prop},Q none ⟨h,g,d,tk,os⟩->Qp (Qs prog w) A (QU (.ref C) name) Q E ⟨h,g,d,tk,os⟩:=fun q=>LN _ _ _ _ (fun _ _ e=>e) q
 repeat (any_goals (first | assumption | (with_reducible refine QJ I ?_;rw [hc]) | (with_reducible refine LS' ?_) | wp_step))
 refine GM SF.slot.plain SF.entry (ZfX T hC I hc ?_)
 have G:=T.refuse (.ref x)
 unfold Ji.«object.__setattr__»
 repeat (first | rw [refuse_eq] | (rw [refuseLoop_ref,G]) | (with_reducible refine QJ I ?_;rw [hc]) | with_reducible refine wpAny_mroOf_exc hC ?_ | (with_reducible refine LN' ?_) | wp_step)
 rw [hdn,if_neg (by simp [typeHasDict])]
 split
 · rename_i B
   cases B
 split
 · rename_i c B
   exact absurd B (hnc c)
 · have z:(h.push { cls:=.type "dict",data:=.dict #[] }).get? x=some o:=Qc _ I
   have S:x≠h.objs.size:=Qq (Qf I)
   refine Qe (wpAny_alloc' ?_)
   refine Qe (wpAny_update' z ?_)
   refine Qu ?_
   have Z:((h.push { cls:=.type "dict",data:=.dict #[] }).update x fun o=>{ cls:=o.cls,dict:=some h.objs.size,data:=o.data,slots:=o.slots }).get? h.objs.size
       = some { cls:=.type "dict",data:=.dict #[] } :=
     (Pz _ _ _ _ S.symm).trans (Ov rfl rfl)
   have W:((h.push { cls:=.type "dict",data:=.dict #[] }).update x fun o=>{ cls:=o.cls,dict:=some h.objs.size,data:=o.data,slots:=o.slots }).Ns h.objs.size (fun _=>none) :=
     ⟨_,#[],_,Z,rfl,fun e he=>absurd he (by simp),fun _=>rfl⟩
   show Qp _ _ (JY h.objs.size (.str name _) name v) _ _ _
   unfold JY OP
   refine Qe (Qu (Qe (wpAny_nsSet1 (RX W) fun h' J hs=>?_)))
   obtain ⟨oD,esD,epD,hoD,hdD,hcD⟩:=J.count (Within.cons name v Within.nil)
   refine Qe (OA hoD (by rw [hdD];exact OB (Qw hcD (by rw [length_cons,Pr,QZ];omega))) ?_)
   wp_walk
   have hx':h'.get? x=some { cls:=o.cls,dict:=some h.objs.size,data:=o.data,slots:=o.slots }:=by
     refine (hs.2 x S).trans (Jf _ z ?_)
     have hfr:=(Heap.get?_some_iff.mp I).2
     obtain ⟨oc,od,odt,osl⟩:=o
     cases odt<;>first | rfl | exact hfr
   repeat (any_goals (first | assumption | wp_step))
   exact hq h' _ hx' J fun b ob Y hb=>(hs.2 b (Qq (Qf hb))).trans ((Pz _ _ _ _ Y).trans (Qc _ hb))
end
def TbAt (base:Heap)(n:Nat)(H:Hp)(h:Heap)(ea:Addr)(vs:Array Qb):Option Qb->Prop
 | none=>vs[1]?=some .none
 | some fl=>∃ T oT ts,vs[1]?=some (.ref T)/\T≠ea/\base.get? T=none/\H T=none/\n<=T/\h.get? T=some oT/\oT.data=.fields ts/\ts[3]?=some fl
def ExcAt (base:Heap)(n:Nat)(H:Hp)(ea C dx:Addr)(fl:Option Qb)(h:Heap):Prop :=
 base.get? ea=none/\H ea=none/\n<=ea/\∃ oe vs,h.get? ea=some oe/\oe.cls=.ref C/\oe.dict=some dx/\oe.data=.fields vs/\TbAt base n H h ea vs fl
def Keep (fs:List Addr)(n:Nat)(H:Hp)(h h':Heap):Prop :=
 (∀ b o,h.get? b=some o->b∈fs->∃ sl,h'.get? b=some { o with slots:=sl })/\(∀ b o,h.get? b=some o->b ∉ fs->(H b≠none\/b < n)->h'.get? b=some o) /\
 (∀ b m,h.Ns b m->h'.Ns b m)/\(∀ b v,h.IsCell b v->h'.IsCell b v)/\h.objs.size<=h'.objs.size
theorem Keep.trans {fs:List Addr}{n:Nat}{H:Hp}{h h1 h2:Heap}(a:Keep fs n H h h1)(b:Keep fs n H h1 h2):Keep fs n H h h2:=by
 refine ⟨fun c o e m=>?_,fun c o e m k=>b.2.1 c o (a.2.1 c o e m k) m k,fun c m x=>b.2.2.1 c m (a.2.2.1 c m x),fun c v x=>b.2.2.2.1 c v (a.2.2.2.1 c v x),Qw a.2.2.2.2 b.2.2.2.2⟩
 obtain ⟨G,e1⟩:=a.1 c o e m
 obtain ⟨z,B⟩:=b.1 c _ e1 m
 exact ⟨z,B⟩
theorem Zft {h h':Heap}(k:∀ b o,h.get? b=some o->(∀ vs,o.data≠.fields vs)->∃ B,h'.get? b=some { o with slots:=B }){b:Addr}{m:Str->Option Qb}(x:h.Ns b m):h'.Ns b m:=by
 obtain ⟨o,es,ep,I,z,r⟩:=x
 obtain ⟨B,G⟩:=k b o I fun vs q=>by rw [z] at q;cases q
 exact ⟨_,es,ep,G,z,r⟩
theorem Zbm {h h':Heap}(k:∀ b o,h.get? b=some o->(∀ vs,o.data≠.fields vs)->∃ B,h'.get? b=some { o with slots:=B }){b:Addr}{v:Option Qb}(x:h.IsCell b v):h'.IsCell b v:=by
 obtain ⟨o,G,z⟩:=x
 obtain ⟨B,I⟩:=k b o G fun vs q=>by rw [z] at q;cases q
 exact ⟨_,I,z⟩
section
variable {M:Rm}{A:QG}{E:Qb->Qd->Prop}{s:Qd}{base:Heap}{n:Nat}{H:Hp}{env:Env}{outer:List Env}{L ea C dx:Addr}
theorem Zbf {oe:Obj}{vs:Array Qb}{G:Qb}{hadNext:Bool}{Q:Unit->Qd->Prop}
   (hfr:A.frames=some (env::outer)) (hl:s.heap.FunFrames base (env::outer)) (hf:env.frame=some L)
   (he:s.heap.get? ea=some oe) (hkb:base.StaysIn s.heap) (hen:base.get? ea=none) (hHe:H ea=none) (hne:n<=ea) (hcl:oe.cls=.ref C) (hdi:oe.dict=some dx) (hd:oe.data=.fields vs) (hsz:1 < vs.size) (hH:∀ b,s.heap.objs.size<=b->H b=none)
   (h:∀ h',base.StaysIn h'->h'.FunFrames base (env::outer)->ExcAt base n H ea C dx (some (Gx L)) h'->Keep (Xi (env::outer)) n H s.heap h'->Q () { s with heap:=h' }) :
   Qp M A (do let a <- frameOf env;let pl <- entryPlaceOf L hadNext;let b <- Rl G a .none (Gx L) .none pl;setField (.ref ea) 1 b) Q E s:=by
 have hene:ea ∉ (env::outer).filterMap (·.frame):=fun hm=>by
   obtain ⟨_,o,ho,W⟩:=hl.mem hm
   rw [he] at ho;injection ho with ho;subst ho;exact W vs hd
 refine Qe (wpAny_frameOf_fun hfr hl hf fun z B=>?_)
 refine Qe (wpAny_entryPlaceOf fun pl hpl=>?_)
 unfold Rl newFields
 refine Qe (JC ?_ (hpl.sizeOk5 _ _ _ _ _))
 have S:z.get? ea=some oe:=(B.2.1 ea hene).trans he
 have kb₁:base.StaysIn z:=fun b o J=>(B.2.1 b fun hm=>by rw [(hl.mem hm).1] at J;cases J).trans (hkb b o J)
 have Z:=Qc (h:=z) { cls:=.type "traceback",dict:=none,data:=.fields ([G,.ref L,.none,Gx L,.none]++(if pl.isEmpty then QH 6 QR else pl)).toArray } S
 refine SX Z hd hsz ?_
 have hTe:z.objs.size≠ea:=GI (Qf S)
 have hd₃:=PX hd (·.setIfInBounds 1 (Ql z.objs.size))
 have he₃:=Jf (Ga (·.setIfInBounds 1 (Ql z.objs.size))) Z (SH hd₃)
 have hT₃:=(Gj (z.push { cls:=.type "traceback",dict:=none,data:=.fields ([G,.ref L,.none,Gx L,.none]++(if pl.isEmpty then QH 6 QR else pl)).toArray })
   (Ga (·.setIfInBounds 1 (Ql z.objs.size))) (Gg hTe)).trans (Qo z rfl)
 have keep:∀ b o,b≠ea->z.get? b=some o ->
     ((z.push { cls:=.type "traceback",dict:=none,data:=.fields ([G,.ref L,.none,Gx L,.none]++(if pl.isEmpty then QH 6 QR else pl)).toArray }).update ea (Ga (·.setIfInBounds 1 (Ql z.objs.size)))).get? b=some o :=
   fun b o hbe I=>by
     rw [Gj _ _ (Gg hbe)]
     exact Qc _ I
 have Y:∀ b o,s.heap.get? b=some o->(∀ vs,o.data≠.fields vs)->b≠ea:=fun b o I W q=>by
   rw [q,he] at I;injection I with I;subst I;exact W vs hd
 have up:∀ b o,s.heap.get? b=some o->(∀ vs,o.data≠.fields vs)->∃ sl,((z.push { cls:=.type "traceback",dict:=none,data:=.fields ([G,.ref L,.none,Gx L,.none]++(if pl.isEmpty then QH 6 QR else pl)).toArray }).update ea (Ga (·.setIfInBounds 1 (Ql z.objs.size)))).get? b=some { o with slots:=sl }:=fun b o I W=>by
   obtain ⟨sl,hs⟩:=B.2.2 b o I
   exact ⟨sl,keep b _ (Y b o I W) hs⟩
 have hmap:∀ {o:Obj} {f:Array Qb->Array Qb},(o.mapFields f).dict=o.dict:=fun {o f}=>by unfold Ga;split<;>rfl
 refine h _ (fun b o J=>keep b o (fun q=>by rw [q,hen] at J;cases J) (kb₁ b o J)) (hl.of_keeps fun b o I W=>let ⟨sl,e⟩:=up b o I W;⟨_,e,rfl⟩) ?_ ?_
 · refine ⟨hen,hHe,hne,_,_,he₃,(Obj.cls_mapFields _ _).trans hcl,hmap.trans hdi,hd₃,z.objs.size,_,_,by simp [hsz],hTe,kb₁.fresh,hH _ (by rw [B.1];exact Qg _),?_,hT₃,rfl,by first | (simp;done) | (rcases hpl with rfl | ⟨_,_,_,_,_,_,_,rfl⟩<;>simp)⟩
   exact Qw hne (GZ (Qf S))
 · refine ⟨fun b o I hm=>?_,fun b o I hm k=>?_,fun b m x=>Zft up x,fun b v x=>Zbm up x,?_⟩
   · obtain ⟨sl,hs⟩:=B.2.2 b o I
     exact ⟨sl,keep b _ (fun q=>hene (by rw [<- q];exact hm)) hs⟩
   · refine keep b o (fun q=>?_) ((B.2.1 b hm).trans I)
     rcases k with k | k
     · exact k (by rw [q];exact hHe)
     · rw [q] at k;exact absurd k (GE.mpr hne)
   · rw [JO,Jo,B.1];exact GA _
theorem ZeA {fl:Option Qb}{Q:Unit->Qd->Prop}(hfl:fl=none\/fl=some .none)
 (hfr:A.frames=some (env::outer)) (hl:s.heap.FunFrames base (env::outer)) (hf:env.frame=some L) (hkb:base.StaysIn s.heap) (x:ExcAt base n H ea C dx fl s.heap) (hH:∀ b,s.heap.objs.size<=b->H b=none)
 (h:∀ h',base.StaysIn h'->h'.FunFrames base (env::outer)->ExcAt base n H ea C dx (some (Gx L)) h'->Keep (Xi (env::outer)) n H s.heap h'->Q () { s with heap:=h' }) :
 Qp M A (noteFrame (.ref ea) env) Q E s:=by
 obtain ⟨Y,hHe,hne,oe,vs,he,Z,hdi,hd,tb⟩:=x
 unfold noteFrame
 simp only [hf]
 rcases hfl with rfl | rfl
 ·have h1:vs[1]?=some .none:=tb
  refine Qe (Tl he hd h1 ?_)
  rw [if_neg (by decide)]
  exact Zbf hfr hl hf he hkb Y hHe hne Z hdi hd (QV.mp h1).1 hH h
 ·obtain ⟨T,oT,ts,h1,hTe,hnT,hHT,W,hT,J,h3⟩:=tb
  refine Qe (Tl he hd h1 ?_)
  rw [if_pos (show (Ql T != QR)=true from by simp)]
  refine Qe (Tl hT J h3 ?_)
  rw [if_neg (show ¬ ((QR == Gx L)=true) from by simp [Gx])]
  refine Qe (SX hT J (QV.mp h3).1 ?_)
  have z:∀ b,b≠T->(s.heap.update T (Ga (·.setIfInBounds 3 QR))).get? b=s.heap.get? b:=fun b G=>Gj _ _ (Gg G)
  have B:∀ b o,s.heap.get? b=some o->(∀ vs,o.data≠.fields vs)->b≠T:=fun b o G I q=>by
   rw [q,hT] at G;injection G with G;subst G;exact I ts J
  have up:∀ b o,s.heap.get? b=some o->(∀ vs,o.data≠.fields vs)->∃ sl,(s.heap.update T (Ga (·.setIfInBounds 3 QR))).get? b=some { o with slots:=sl }:=fun b o G I=>⟨o.slots,(z b (B b o G I)).trans G⟩
  have hsz:(s.heap.update T (Ga (·.setIfInBounds 3 QR))).objs.size=s.heap.objs.size:=JO ..
  have kp:Keep (Xi (env::outer)) n H s.heap (s.heap.update T (Ga (·.setIfInBounds 3 QR))):=by
   refine ⟨fun b o G hm=>⟨o.slots,(z b fun q=>?_).trans G⟩,fun b o G hm k=>(z b fun q=>?_).trans G,fun b m x=>Zft up x,fun b v x=>Zbm up x,Jq hsz.symm⟩
   ·obtain ⟨_,o',ho',I⟩:=hl.mem hm
    rw [q,hT] at ho';cases ho';exact I ts J
   ·rcases k with k | k
    ·exact k (by rw [q];exact hHT)
    ·rw [q] at k;exact absurd k (GE.mpr W)
  exact Zbf (s:={ s with heap:=s.heap.update T (Ga (·.setIfInBounds 3 QR)) }) hfr (hl.of_keeps fun b o G I=>⟨o,(z b (B b o G I)).trans G,rfl⟩) hf ((z ea (Gg hTe)).trans he)
   (fun b o S=>(z b fun q=>by rw [q,hnT] at S;cases S).trans (hkb b o S)) Y hHe hne Z hdi hd (QV.mp h1).1 (fun b G=>hH b (by rw [<- hsz];exact G))
   fun h' x1 x2 x3 x4=>h h' x1 x2 x3 (kp.trans x4)
theorem Vt {l:List Env}{fl:Qb}{Q:Unit->Qd->Prop}(hkb:base.StaysIn s.heap)(hl:s.heap.FunFrames base l)(x:ExcAt base n H ea C dx (some fl) s.heap)
 (h:∀ h',base.StaysIn h'->h'.FunFrames base l->ExcAt base n H ea C dx (some .none) h'->(∀ fs,(∀ b∈fs,∃ o,s.heap.get? b=some o/\∀ vs,o.data≠.fields vs)->Keep fs n H s.heap h')->Q () { s with heap:=h' }) :
 Qp M A (setFlight (.ref ea) none) Q E s:=by
 obtain ⟨hen,hHe,hne,oe,vs,he,hcl,hdi,hd,T,oT,ts,h1,hTe,hnT,Z,W,hT,J,h3⟩:=x
 have S:3 < ts.size:=(QV.mp h3).1
 have z:∀ b,b≠T->(s.heap.update T (Ga (·.setIfInBounds 3 ((none:Option Addr).elim QR fun f=>Gx f)))).get? b=s.heap.get? b :=
  fun b G=>Gj _ _ (Gg G)
 have B:∀ b o,s.heap.get? b=some o->(∀ vs,o.data≠.fields vs)->b≠T:=fun b o G I q=>by
  rw [q,hT] at G;injection G with G;subst G;exact I ts J
 have up:∀ b o,s.heap.get? b=some o->(∀ vs,o.data≠.fields vs)->∃ sl,(s.heap.update T (Ga (·.setIfInBounds 3 ((none:Option Addr).elim QR fun f=>Gx f)))).get? b=some { o with slots:=sl }:=fun b o G I=>⟨o.slots,(z b (B b o G I)).trans G⟩
 unfold setFlight
 refine Qe (Tl he hd h1 ?_)
 rw [if_pos (show (Ql T != QR)=true from by simp)]
 refine SX hT J S (h _ (fun b o Y=>(z b fun q=>by rw [q,hnT] at Y;cases Y).trans (hkb b o Y))
  (hl.of_keeps fun b o G I=>⟨o,(z b (B b o G I)).trans G,rfl⟩) ?_ fun fs hfs=>?_)
 ·exact ⟨hen,hHe,hne,oe,vs,(z ea (Gg hTe)).trans he,hcl,hdi,hd,T,_,_,h1,hTe,hnT,Z,W,Jf _ hT (SH (PX J _)),PX J _,by simp [S]⟩
 ·refine ⟨fun b o G hm=>⟨o.slots,(z b fun q=>?_).trans G⟩,fun b o G hm k=>(z b fun q=>?_).trans G,fun b m x=>Zft up x,fun b v x=>Zbm up x,Jq (JO ..).symm⟩
  ·obtain ⟨o',ho',I⟩:=hfs b hm
   rw [q,hT] at ho';cases ho';exact I ts J
  ·rcases k with k | k
   ·exact k (by rw [q];exact Z)
   ·rw [q] at k;exact absurd k (GE.mpr W)
theorem ZhU {G:Option Qb}{Q:Unit->Qd->Prop}(z:G=none\/G=some .none)
 (I:A.frames=some (env::outer)) (Y:s.heap.FunFrames base (env::outer)) (hf:env.frame=some L) (J:base.StaysIn s.heap) (x:ExcAt base n H ea C dx G s.heap) (hH:∀ b,s.heap.objs.size<=b->H b=none)
 (h:∀ h',base.StaysIn h'->h'.FunFrames base outer->ExcAt base n H ea C dx (some .none) h'->Keep (Xi (env::outer)) n H s.heap h'->Q () { s with heap:=h' }) :
 Qp M A (leaving env (.ref ea)) Q E s:=by
 unfold leaving
 refine Qe (ZeA z I Y hf J x hH fun h1 b1 S x1 k1=>?_)
 refine Vt b1 S x1 fun h2 b2 f2 W k2=>h h2 b2 f2.2.2 W (k1.trans (k2 _ fun b Z=>?_))
 obtain ⟨_,o,ho,B⟩:=S.mem Z
 exact ⟨o,ho,B⟩
end
theorem Keep.hok {P:Qj}{w:Qr}{fs:List Addr}{n:Nat}{H:Hp}{h h':Heap}(x:HOk P w H h)(G:∀ b∈fs,H b=none)(k:Keep fs n H h h'):HOk P w H h':=fun a o e=>by
 have B:∀ b,b=a\/H b=some (.own a)->H b≠none:=fun b hb z=>by
  rcases hb with rfl | hb
  ·rw [e] at z;cases z
  ·rw [hb] at z;cases z
 exact (x a o e).stay (fun b u hb q=>k.2.1 b u q (fun m=>B b hb (G b m)) (.inl (B b hb))) (fun _ q=>q) (fun _ _ q=>q)
theorem ExcAt.le {base:Heap}{n B:Nat}{H:Hp}{ea C dx:Addr}{z:Option Qb}{h:Heap}(x:ExcAt base B H ea C dx z h)(l:n<=B):ExcAt base n H ea C dx z h:=by
 obtain ⟨a,b,c,Z,vs,e1,G,e3,e4,tb⟩:=x
 refine ⟨a,b,Qw l c,Z,vs,e1,G,e3,e4,?_⟩
 cases z with
 | none=>exact tb
 | some f=>obtain ⟨T,oT,ts,Y,S,I,W,t5,J⟩:=tb;exact ⟨T,oT,ts,Y,S,I,W,Qw l t5,J⟩
section
variable {X:Cx}{pins:List (Addr×Obj)}{σ:St}{H H1 H2:Hp}{s s1 s2:Qd}{h':Heap}
def Zfp (n:Nat)(H:Hp)(h:Heap):List Addr:=(QW h.objs.size).filter fun b=>(H b).isNone&&decide (n<=b)
theorem Inv.flown {t':Nat}(W:Inv X pins σ H1 s1)(S:Inv X pins σ H2 s2)(k:Keep (Xi X.stack) s1.heap.objs.size H2 s2.heap h'):Inv X pins σ H2 { s2 with heap:=h',toks:=t' }:=by
 have Y:∀ b,b∈Zfp s1.heap.objs.size H2 s2.heap->s1.heap.objs.size<=b:=fun b G=>by
  have:=(mem_filter.mp G).2
  simp only [QM,decide_eq_true_eq] at this
  exact this.2
 have I:∀ b o,s2.heap.get? b=some o->b ∉ Zfp s1.heap.objs.size H2 s2.heap->H2 b≠none\/b < s1.heap.objs.size:=fun b o e G=>by
  by_cases z:H2 b=none
  ·refine .inr (Nat.lt_of_not_le fun l=>G (mem_filter.mpr ⟨mem_range.mpr (Qf e),?_⟩))
   rw [z];simp [l]
  ·exact .inl z
 refine S.call (g':=s2.gens) (d':=s2.drawn) (ch:=Zfp s1.heap.objs.size H2 s2.heap) ⟨fun b o e hn Z J=>k.2.1 b o e Z (I b o e J),fun b o e hn Z J=>k.1 b o e Z,fun b o e hn J=>hn,fun b o e J=>?_,fun _ _ e=>e,fun _ _ _ e=>e,fun _ ps e=>⟨#[],by rw [e];simp⟩⟩ (k.hok S.hok S.stkFree) S.bare fun b G=>?_
 ·by_cases m:b∈Xi X.stack
  ·obtain ⟨sl,q⟩:=k.1 b o e m;exact ⟨_,q⟩
  ·exact ⟨o,k.2.1 b o e m (I b o e J)⟩
 ·have B:=Y b G
  refine ⟨.inr (Qw W.sz B),fun z=>?_,fun x c hx z=>?_,fun p hp z=>?_⟩
  ·have:=W.lt;rw [<- z] at this;exact absurd this (GE.mpr B)
  ·obtain ⟨v,o,e,_⟩:=W.cell x c hx
   have:=Qf e;rw [z] at this;exact absurd this (GE.mpr B)
  ·have:=Qf (W.pin p hp).1;rw [z] at this;exact absurd this (GE.mpr B)
structure Cx.Old (X:Cx)(a:Addr):Prop where
 t:∀ xs,X.H₀ a≠some (.tup xs)
 f:∀ o u,X.H₀ a≠some (.frz o u)
 b:∀ ps,X.H₀ a≠some (.tbl ps)
theorem Inv.old {a:Addr}(I:Inv X pins σ H s)(h:H a=none):X.Old a where
 t:=fun xs e=>(by have:=I.base.tups a xs e;rw [h] at this;cases this)
 f:=fun o u e=>(by have:=I.base.frzs a o u e;rw [h] at this;cases this)
 b:=fun ps e=>(by obtain ⟨m,q⟩:=I.base.tbls a ps e;rw [h] at q;cases q)
theorem Cx.Old.nt {a b:Addr}(O:X.Old a){xs:List V}(e:X.H₀ b=some (.tup xs)):b≠a:=fun z=>O.t xs (by rw [<- z];exact e)
theorem Cx.Old.nf {a b:Addr}(O:X.Old a){o:Obj}{u:HO}(e:X.H₀ b=some (.frz o u)):b≠a:=fun z=>O.f o u (by rw [<- z];exact e)
theorem Cx.Old.nb {a b:Addr}(O:X.Old a){ps:Array Qb}(e:X.H₀ b=some (.tbl ps)):b≠a:=fun z=>O.b ps (by rw [<- z];exact e)
theorem Inv.track {a:Addr}{o:HO}(I:Inv X pins σ H s)(G:H a=none)(Y:X.s₀.heap.objs.size<=a)(S:a≠X.env.locals)(W:∀ x c,X.env.cells.lookup x=some c->c≠a)(hp:∀ p∈X.pn++pins,p.1≠a)
 (new:ObjOk X.prog X.w (upd H a o) s.heap a o):Inv X pins σ (upd H a o) s:=by
 have old:∀ b u,X.s₀.heap.get? b=some u->b≠a:=fun b u e z=>by
  have:=Qf e;rw [z] at this;exact absurd this (GE.mpr Y)
 refine ⟨I.ok,I.os,I.bare,⟨I.base.keep,I.base.slot,fun b u e n J=>?_,I.base.there,fun b xs e=>?_,fun b u xs e=>?_,fun b ps e=>?_⟩,I.loc,I.cell,?_,fun x c J=>?_,fun p B=>?_,fun b u e=>?_,I.len⟩
 ·rw [Zi (old b u e)];exact I.base.free b u e n J
 ·rw [Zi ((I.old G).nt e)];exact I.base.tups b xs e
 ·rw [Zi ((I.old G).nf e)];exact I.base.frzs b u xs e
 ·rw [Zi ((I.old G).nb e)];exact I.base.tbls b ps e
 ·rw [Zi (Gg S)];exact I.free
 ·rw [Zi (W x c J)];exact I.freeC x c J
 ·obtain ⟨e1,e2,Z⟩:=I.pin p B
  exact ⟨e1,by rw [Zi (hp p B)];exact e2,Z⟩
 ·by_cases z:b=a
  ·subst z;rw [Zh] at e;cases e;exact new
  ·rw [Zi z] at e
   exact (I.hok b u e).stay (fun _ _ _ q=>q) (fun c q=>by rw [Zi (Zp q G)];exact q) (fun c xs q=>by rw [Zi (Zp q G)];exact q)
end
def Xc (P:Qj)(w:Qr)(base:Heap):Ur:=fun outer H s E e s'=>∃(ea C dx:Addr)(H':Hp),e=.ref ea/\base.StaysIn s'.heap/\s'.heap.FunFrames base outer/\ExcAt base s.heap.objs.size H' ea C dx (some .none) s'.heap/\s'.os=s.os/\PB s'.gens /\
 Un (Xi outer) [] H H' s.heap s'.heap/\HOk P w H' s'.heap/\E (.ref C) (some dx) H'
section
variable {P:Qj}{w:Qr}{K:Qa}{mg:Str->Option Qb}{base:Heap}{k:Nat}{f:Addr}{fd:Qi}{ps:List Str}{sp sp':Sp}{CX:Ur}
theorem FnOk.lift (F:FnOk P w K mg base ZH k f fd ps sp):FnOk P w K mg base CX k f fd ps sp :=
 ⟨F.len,fun A outer s H args us vs Q E z e b v q=>GK (F.run A outer s H args us vs Q E z e b v q) fun r s' h=>by
  cases r with
  | error e=>exact h.elim
  | ok fl=>cases fl<;>exact h⟩
theorem FnOk.or (F:FnOk P w K mg base CX k f fd ps sp)(G:FnOk P w K mg base CX k f fd ps sp'):FnOk P w K mg base CX k f fd ps (fun vs H Q E=>sp vs H Q E\/sp' vs H Q E) :=
 ⟨fun vs H Q E h=>h.elim (F.len vs H Q E) (G.len vs H Q E),fun A outer s H args us vs Q E z e b v q=>q.elim (F.run A outer s H args us vs Q E z e b v) (G.run A outer s H args us vs Q E z e b v)⟩
def Vc (X:Cx)(EE:St->XK):Prop:=∀(pins:List (Addr×Obj))(σ:St)(H1 H2:Hp)(s1 s2:Qd)(ea C dx:Addr)(fl:Option Qb),Inv X pins σ H1 s1->Inv X pins σ H2 s2->(fl=none\/fl=some .none)->ExcAt X.base s1.heap.objs.size H2 ea C dx fl s2.heap->EE σ (.ref C) (some dx) H2->X.xe (.ref ea) s2
theorem ZgT {N:List Str}{qual:Str}{scope:Scope}{J:Qb}{A:QG}{outer:List Env}{s:Qd}{H:Hp}{E:XK}:Vc (ZN (Xc P w base) P w K mg base N qual scope f J A outer s H E) (fun _=>E):=by
 intro pins σ H1 H2 s1 s2 ea C dx fl I1 z Y x q
 have hsz:s.heap.objs.size<=s1.heap.objs.size:=I1.sz
 have B:HOk P w H2 s2.heap:=z.hok
 refine ZhU (base:=base) (n:=s.heap.objs.size) (H:=H2) (outer:=outer) (L:=s.heap.objs.size) Y z.ok.frames z.stack rfl z.bk (x.le hsz) (fun b hb=>B.fresh hb) fun h' b1 f1 x1 k1=>?_
 have un:Un (Xi outer) [] H H2 s.heap s2.heap:=z.base
 have nL:∀ b o,s.heap.get? b=some o->b ∉ Xi outer->b ∉ Xi (JW qual scope s.heap.objs.size f J::outer):=fun b o e G m=>by
  rcases mem_filterMap.mp m with ⟨v,hv,S⟩
  rcases mem_cons.mp hv with rfl | hv
  ·cases (show some s.heap.objs.size=some b from S);exact absurd (Qf e) (Gz _)
  ·exact G (mem_filterMap.mpr ⟨v,hv,S⟩)
 have inL:∀ b,b∈Xi outer->b∈Xi (JW qual scope s.heap.objs.size f J::outer):=fun b m=>by
  obtain ⟨v,hv,S⟩:=mem_filterMap.mp m
  exact mem_filterMap.mpr ⟨v,mem_cons_of_mem _ hv,S⟩
 refine ⟨ea,C,dx,H2,rfl,b1,f1,x1,z.os,z.bare,⟨fun b o e Z G I=>k1.2.1 b o (un.keep b o e Z G I) (nL b o e G) (.inr (Qf e)),fun b o e Z G I=>?_,un.free,fun b o e I=>?_,un.tups,un.frzs,un.tbls⟩,k1.hok B z.stkFree,q⟩
 ·obtain ⟨sl,e1⟩:=un.slot b o e Z G I
  obtain ⟨W,e2⟩:=k1.1 b _ e1 (inL b G)
  exact ⟨W,e2⟩
 ·obtain ⟨o',e1⟩:=un.there b o e I
  by_cases m:b∈Xi (JW qual scope s.heap.objs.size f J::outer)
  ·obtain ⟨sl,e2⟩:=k1.1 b o' e1 m;exact ⟨_,e2⟩
  ·exact ⟨o',k1.2.1 b o' e1 m (.inr (Qf e))⟩
end
abbrev Cx.tryc (X:Cx)(pn:List (Addr×Obj))(Z:Qb->Qd->Prop):Cx:={ X with pn:=pn,xe:=Z }
abbrev Cx.marked (X:Cx)(ea:Addr)(Z:Qb->Qd->Prop):Cx:={ X with A:=X.A.mark (some (.ref ea)),calm:=false,xe:=Z }
def XO (ea C dx:Addr):HO:=.ext fun h=>∃ oe vs,h.get? ea=some oe/\oe.cls=.ref C/\oe.dict=some dx/\oe.data=.fields vs
section
variable {X:Cx}{pins:List (Addr×Obj)}{σ:St}{H:Hp}{s:Qd}
theorem Inv.tryc (I:Inv X pins σ H s)(Z:Qb->Qd->Prop):Inv (X.tryc (X.pn++pins) Z) [] σ H s :=
 ⟨⟨I.ok.mod,I.ok.kind,I.ok.glob,I.ok.blt,I.ok.above,I.ok.inj,I.ok.has,I.ok.cab,I.ok.hd,I.ok.frames,I.ok.stk,I.ok.exf,I.ok.bs,I.ok.bsz,I.ok.noex,I.ok.exfs,I.ok.funs,I.ok.frf⟩,I.os,I.bare,I.base,I.loc,I.cell,I.free,I.freeC,fun p hp=>I.pin p (by rw [Ps] at hp;exact hp),I.hok,I.len⟩
theorem Inv.untryc {z:List (Addr×Obj)}{Z:Qb->Qd->Prop}(I:Inv (X.tryc (X.pn++pins) Z) z σ H s):Inv X pins σ H s :=
 ⟨⟨I.ok.mod,I.ok.kind,I.ok.glob,I.ok.blt,I.ok.above,I.ok.inj,I.ok.has,I.ok.cab,I.ok.hd,I.ok.frames,I.ok.stk,I.ok.exf,I.ok.bs,I.ok.bsz,I.ok.noex,I.ok.exfs,I.ok.funs,I.ok.frf⟩,I.os,I.bare,I.base,I.loc,I.cell,I.free,I.freeC,fun p hp=>I.pin p (Jl _ hp),I.hok,I.len⟩
theorem Inv.mark (I:Inv X pins σ H s)(ea:Addr)(Z:Qb->Qd->Prop):Inv (X.marked ea Z) pins σ H s :=
 ⟨⟨I.ok.mod,I.ok.kind,I.ok.glob,I.ok.blt,I.ok.above,I.ok.inj,I.ok.has,I.ok.cab,(fun z=>by cases z),I.ok.frames,I.ok.stk,I.ok.exf,I.ok.bs,I.ok.bsz,I.ok.noex,I.ok.exfs,I.ok.funs,I.ok.frf⟩,I.os,I.bare,I.base,I.loc,I.cell,I.free,I.freeC,I.pin,I.hok,I.len⟩
theorem Inv.unmark {ea:Addr}{Z:Qb->Qd->Prop}(I:Inv (X.marked ea Z) pins σ H s)(z:X.calm=true->X.A.handled=none):Inv X pins σ H s :=
 ⟨⟨I.ok.mod,I.ok.kind,I.ok.glob,I.ok.blt,I.ok.above,I.ok.inj,I.ok.has,I.ok.cab,z,I.ok.frames,I.ok.stk,I.ok.exf,I.ok.bs,I.ok.bsz,I.ok.noex,I.ok.exfs,I.ok.funs,I.ok.frf⟩,I.os,I.bare,I.base,I.loc,I.cell,I.free,I.freeC,I.pin,I.hok,I.len⟩
theorem ZjC {M:Rm}{A:QG}{E:Qb->Qd->Prop}{i:Nat}{x:Str}{pos:Pos}{Q:Unit->Qd->Prop}(I:Inv X pins σ H s)(hN:X.N.Nodup)(hi:X.N[i]?=some x)(hk:X.env.kindOf x=some .local)
 (h:∀ s',Inv X pins (σ.set i none) H s'->Q () s'):Qp M A (do Jm X.env x .none;SY X.env x pos) Q E s:=by
 obtain ⟨m,hn,hl⟩:=id I.loc
 have J:(X.env.scope.kind == .class || (X.env.scope.kind == .module&&X.env.locals != X.env.globals))=false:=by rw [I.ok.kind];rfl
 have cne:=I.cne
 refine wpAny_nameGoes_keeps hk hn J fun h' v W B=>?_
 obtain ⟨oL,_,_,hoL,_⟩:=id hn
 refine h _ ⟨I.ok,I.os,I.bare,⟨fun b o e n Y S=>?_,fun b o e n Y S=>?_,I.base.free,fun b o e S=>?_,I.base.tups,I.base.frzs,I.base.tbls⟩,⟨_,W,fun j y v' e1 G e3=>?_⟩,fun y c e=>?_,I.free,I.freeC,fun p hp=>?_,fun b ob e=>?_,by simpa using I.len⟩
 ·exact (B.2 b (Qq (QE (Qf e) I.ok.above))).trans (I.base.keep b o e n Y S)
 ·obtain ⟨sl,e1⟩:=I.base.slot b o e n Y S
  exact ⟨sl,(B.2 b (Qq (QE (Qf e) I.ok.above))).trans e1⟩
 ·obtain ⟨o',e1⟩:=I.base.there b o e S
  exact ⟨o',(B.2 b (Qq (QE (Qf e) I.ok.above))).trans e1⟩
 ·by_cases hj:j=i
  ·subst hj
   rw [Tk] at G
   split at G
   ·split at G<;>cases G
   ·rename_i z;exact absurd rfl z
  ·rw [Pd (Gg hj)] at G
   obtain ⟨u',r',q⟩:=hl j y v' e1 G e3
   refine ⟨u',r',?_⟩
   rcases q with ⟨k,e⟩ | ⟨k,c,e,z⟩
   ·refine .inl ⟨k,?_⟩
    have:y≠x:=fun e=>hj (Zab hN e1 (e ▸ hi))
    simp [this,e]
   ·exact .inr ⟨k,c,e,z.sameBut B (cne y c e)⟩
 ·obtain ⟨Z,z⟩:=I.cell y c e
  exact ⟨Z,z.sameBut B (cne y c e)⟩
 ·obtain ⟨e,n,ne,nf,d⟩:=I.pin p hp
  exact ⟨(B.2 p.1 ne).trans e,n,ne,nf,d⟩
 ·refine (I.hok b ob e).stay (fun c Z hc q=>(B.2 c ?_).trans q) (fun _ q=>q) fun _ _ q=>q
  rintro rfl
  rcases hc with rfl | hc
  ·rw [I.free] at e;cases e
  ·rw [I.free] at hc;cases hc
end
def ZlB (K:Qa)(C0:Addr)(i:Nat)(tb:(St->XK)->TS)(th:TS):TS:=fun D σ H =>
 tb (fun σ' Cv dO H'=>∃ C dx,Cv=.ref C/\dO=some dx/\PySem.W.exmOne K (.ref C) (.ref C0)=some true/\∀ ea,H' ea=none ->
  th { nx:=fun σ2 H2=>D.nx (σ2.set i none) H2,rt:=D.rt,bk:=fun σ2 H2=>D.bk (σ2.set i none) H2,ct:=fun σ2 H2=>D.ct (σ2.set i none) H2 } (σ'.set i (some (.ref ea))) (upd H' ea (XO ea C dx))) D σ H
section
variable {X:Cx}{body suite:List Stmt}{b0:Stmt}{C0:Addr}{x0 n:Str}{i:Nat}{tb:(St->XK)->TS}{th:TS}{p0 hp pos:Pos}
theorem ZiA (hcalm:X.calm=true)(Y:X.stack=X.env::X.outer)(hfr:X.env.frame=some X.env.locals)(hN:X.N.Nodup)(hi:X.N[i]?=some n)(hk:X.env.kindOf n=some .local)(hg:Gl X x0)(hm:X.mg x0=some (.ref C0))(hdb:(x0 == ("__debug__":Str))=false)
 (hb:∀ pn Z EE,Vc (X.tryc pn Z) EE->PSs (X.tryc pn Z) body (tb EE)) (hh:∀ ea Z,PSs (X.marked ea Z) (b0::suite) th) :
 PS X (.Try body [.ExceptHandler (some (.Name x0 p0)) (some n) (b0::suite) hp] [] [] pos) (ZlB X.K C0 i tb th):=by
 intro pins s σ H D I h
 rw [arm_exec_Try]
 refine Qe (Gr (wpAny_tryStmt_except ?_))
 refine QX (hb (X.pn++pins) _ _ ?W [] s σ H D (I.tryc _) h) (fun f s1 S=>?_) (fun e s1 z=>z)
 case W =>
  intro pins' σ1 H1 H2 s1 s2 ea C dx fl I1 I2 hfl x q
  have J1:=I1.untryc
  have J2:=I2.untryc
  obtain ⟨C',dx',e1,e2,hex,hq⟩:=q
  cases e1
  cases e2
  have fr:X.A.frames=some (X.env::X.outer):=by rw [<- Y];exact J2.ok.frames
  have ff:s2.heap.FunFrames X.base (X.env::X.outer):=by rw [<- Y];exact J2.stack
  have off:∀ {h:Heap},h.FunFrames X.base (X.env::X.outer)->∀ b∈Xi (X.env::X.outer),∃ o,h.get? b=some o/\∀ vs,o.data≠.fields vs:=fun f b hb=>(f.mem hb).2
  refine ZeA (base:=X.base) (n:=s1.heap.objs.size) (H:=H2) hfl fr ff hfr J2.bk x (fun b hb=>J2.hok.fresh hb) fun h3 b3 f3 x3 k3=>?_
  refine Vt b3 f3 x3 fun h4 b4 f4 x4 k4=>?_
  have k34:=k3.trans (k4 _ (off f3))
  have J4:Inv X pins σ1 H2 { s2 with heap:=h4 }:=J1.flown (t':=s2.toks) J2 (by rw [Y];exact k34)
  refine wpAny_handleBy_cons (codeAny_handlers_test ?_) (by intro q;cases q)
  refine WM (X:=X.marked ea X.xe) (J4.mark ea X.xe) hg hm ?_ hdb
  have LT:GB (Qs X.prog X.w) h4 (typeOf (.ref ea)) (.ref C):=by
   obtain ⟨_,_,_,oe,vs,he,hc,_⟩:=x4
   rw [<- hc];exact (OQ he).andThen .now
  refine (PySem.W.exm_one (h:=h4) J4.kIn LT hex) _ _ _ _ (fun _ _ e=>e) ?_
  refine codeAny_handlers_suite_as ?_
  refine Vt b4 f4 x4 fun h5 b5 f5 x5 k5=>?_
  have k45:=k34.trans (k5 _ (off f4))
  have J5:Inv X pins σ1 H2 { s2 with heap:=h5 }:=J1.flown (t':=s2.toks) J2 (by rw [Y];exact k45)
  obtain ⟨hen,hHe,hne,oe,vs,he,hc,hdi,hd,_⟩:=id x5
  have lt1:∀ b,b < s1.heap.objs.size->b≠ea:=fun b hb z=>by rw [z] at hb;exact absurd hb (GE.mpr hne)
  have J6:Inv X pins σ1 (upd H2 ea (XO ea C dx)) { s2 with heap:=h5 }:=by
   refine J5.track hHe (Qw J1.sz hne) (fun z=>lt1 _ J1.lt z.symm) (fun y c hy=>?_) (fun p hp=>lt1 _ (Qf (J1.pin p hp).1)) ?_
   ·obtain ⟨v,o,e,_⟩:=J1.cell y c hy
    exact lt1 _ (Qf e)
   ·exact ⟨⟨oe,vs,he,hc,hdi,hd⟩,⟨oe,he⟩,fun h1 h2 ⟨oe,vs,e,r⟩ k=>⟨oe,vs,k _ e,r⟩⟩
  refine Xe (X:=X) J6 hN hi (.inl hk) (v:=.ref ea) rfl (fun s6 J8=>?_) (.inr hk)
  refine QX (hh ea _ pins s6 _ _ _ (J8.mark ea _) (hq ea hHe)) (fun f s7 S=>?_) (fun _ _ z=>z)
  have G:∀ {Z:Qb->Qd->Prop} {B:St} {H':Hp} {Q:Unit->Qd->Prop},Inv (X.marked ea Z) pins B H' s7->(∀ s',Inv X pins (B.set i none) H' s'->Q () s')->Qp (Qs X.prog X.w) X.A (do Jm X.env n .none;SY X.env n hp) Q X.xe s7:=fun J q=>ZjC (J.unmark J1.ok.hd) hN hi hk q
  cases f with
  | next=>obtain ⟨B,H',J,q⟩:=S;exact G J fun s' J'=>⟨_,H',J',q⟩
  | brk=>obtain ⟨B,H',J,q⟩:=S;exact G J fun s' J'=>⟨_,H',J',q⟩
  | cont=>obtain ⟨B,H',J,q⟩:=S;exact G J fun s' J'=>⟨_,H',J',q⟩
  | ret u=>obtain ⟨v,B,H',J,r,q⟩:=S;exact G J fun s' J'=>⟨v,_,H',J',r,q⟩
 ·cases f with
  | next=>obtain ⟨B,H',J,q⟩:=S;exact Qu ⟨B,H',J.untryc,q⟩
  | brk=>obtain ⟨B,H',J,q⟩:=S;exact ⟨B,H',J.untryc,q⟩
  | cont=>obtain ⟨B,H',J,q⟩:=S;exact ⟨B,H',J.untryc,q⟩
  | ret u=>obtain ⟨v,B,H',J,r,q⟩:=S;exact ⟨v,B,H',J.untryc,r,q⟩
end
def ZhN (P:Qj)(w:Qr)(K:Qa)(mg:Str->Option Qb)(base:Heap)(k:Nat)(x:Str)(ps:List Str)(sp:Sp):Prop :=
 ∃ f fd,FnOk P w K mg base (Xc P w base) k f fd ps sp/\Binds K fd ps []/\Gs K (.ref f)=true/\mg x=some (.ref f)
def DefMX (P:Qj)(w:Qr)(K:Qa)(mg:Str->Option Qb)(base:Heap)(k:Nat)(C:Addr)(m:Str)(ps:List Str)(sp:Sp):Prop:=∃ f fd,FnOk P w K mg base (Xc P w base) k f fd ps sp/\Binds K fd ps []/\Us K C m f
section
variable {P:Qj}{w:Qr}{K:Qa}{mg:Str->Option Qb}{base:Heap}{j k:Nat}{C:Addr}{x m:Str}{ps:List Str}{sp:Sp}
theorem DefMX.mono (D:DefMX P w K mg base j C m ps sp)(h:j<=k):DefMX P w K mg base k C m ps sp:=let ⟨f,fd,F,b,q⟩:=D;⟨f,fd,F.mono h,b,q⟩
end
def ZkQ (sp:Sp)(EE:St->XK)(t:TA):TE:=fun σ H Q=>t σ H fun vs H1=>sp vs H1 Q (EE σ)
def Zmp (C:Addr)(m:Str)(sp:Sp)(EE:St->XK)(ta:TE)(t:TA):TE:=fun σ H Q=>ta σ H fun x H1=>∃ a dx fs,x=.ref a/\H1 a=some (.ins C dx fs)/\fs.lookup m=none/\t σ H1 fun vs H2=>sp (x::vs) H2 Q (EE σ)
section
variable {X:Cx}{EE:St->XK}{k:Nat}{f C:Addr}{fd:Qi}{ps:List Str}{sp:Sp}{x m:Str}{p pos apos:Pos}{e o:Expr}{es:List Expr}{ta:TE}{t:TA}
theorem Zel {pins:List (Addr×Obj)}{σ:St}{H:Hp}{s:Qd}{Q:VK}{us:List Qb}{vs:List V}(W:Vc X EE)(F:FnOk X.prog X.w X.K X.mg X.base (Xc X.prog X.w X.base) k f fd ps sp)(J:Room k X.A)(Y:Binds X.K fd ps [])
 (I:Inv X pins σ H s) (r:Vals vs us) (h:sp vs H Q (EE σ)):Qp (Qs X.prog X.w) X.A (call (.ref f) us) (EP X pins σ Q) X.xe s:=by
 have S:(us++[]).length=ps.length:=by rw [Ps,<- r.length];exact F.len _ _ _ _ h
 have G:=Y s us I.kIn S
 rw [Ps] at G
 refine JV (GK (F.run X.A X.stack s H ⟨us,[]⟩ us vs Q (EE σ) J I.env0 G r h) fun r s' B=>?_)
 cases r with
 | error e =>
  obtain ⟨ea,C,dx,H',rfl,kb,ff,x,os,Z,un,hok,q⟩:=B
  exact W pins σ H H' s s' ea C dx _ I (I.call' os un hok Z fun b z=>absurd z (by simp)) (.inr rfl) x q
 | ok fl =>
  cases fl with
  | ret u=>exact I.after B
  | next=>exact QS B
  | brk=>exact QS B
  | cont=>exact QS B
theorem ZmU (W:Vc X EE)(D:ZhN X.prog X.w X.K X.mg X.base k x ps sp)(J:Room k X.A)(S:PA X (e::es) t)(Y:Gl X x:=by rfl)(B:(x == ("__debug__":Str))=false:=by decide)
 (Z:Qz (e::es) X.env=(false,eval e X.env)::Qz es X.env:=by rfl) (z:(GP pos (Qz es X.env)).any (·.1)=false:=by rfl):PE X (.Call (.Name x p) (e::es) [] pos) (ZkQ sp EE t):=by
 obtain ⟨f,fd,F,b,kp,m⟩:=D
 intro pins s σ H Q I h
 refine QP (WM I Y m ?_ B)
 refine Ja (h₀:=X.base) I.ok.mod.kin kp (Zu (S pos pins s σ H _ I h) fun us s1 ⟨vs,H1,G,r,q⟩=>⟨G.kIn,?_⟩) Z z
 exact Zel W F J b G r q
theorem ZY {pl:Sem Bool}(W:Vc X EE)(D:DefMX X.prog X.w X.K X.mg X.base k C m ps sp)(c:Cls X.K C)(hr:Room k X.A)(he:PE X o ta)(ha:PA X (e::es) t)
 (B:Qz (e::es) X.env=(false,eval e X.env)::Qz es X.env:=by rfl) (z:(GP pos (Qz es X.env)).any (·.1)=false:=by rfl)
 (ht:eval (.Call (.Attribute o m apos) (e::es) [] pos) X.env=(do
  let J <- eval o X.env
  Te apos.atName
  let (f,first) <- JB [J] (PJ J m pl)
  TK pos f first (GP pos (Qz (e::es) X.env)) (Pf pos (GX [] X.env))):=by rfl) :
 PE X (.Call (.Attribute o m apos) (e::es) [] pos) (Zmp C m sp EE ta t):=by
 obtain ⟨f,fd,F,b,Y⟩:=D
 intro pins s σ H Q I h
 refine JR (pl:=pl) (Zu (he pins s σ H _ I h) fun u s1 ⟨x,H1,G,Z,a,dx,fs,ex,ea,l,q⟩=>?_) ht
 subst ex
 obtain rfl:u=Ql a:=Z
 refine UR G ea c Y l ?_
 refine Ja (h₀:=X.base) (first:=[.ref a]) G.ok.mod.kin Y.kp (Zu (ha pos pins s1 σ H1 _ G q) fun us s2 ⟨vs,H2,S,r,q2⟩=>⟨S.kIn,?_⟩) B z
 exact Zel (us:=.ref a::us) (vs:=.ref a::vs) W F hr b S (.cons rfl r) q2
end
theorem Fun.okX {P:Qj}{w:Qr}{K:Qa}{mg:Str->Option Qb}{base:Heap}{x qual:Str}{st:Stmt}{f:Addr}{fd:Qi}{N ps:List Str}{k:Nat}{sp:Sp}(F:Fun K x qual st f fd)(S:Zo N ps (Zj st))(len:∀ vs H Q E,sp vs H Q E->vs.length=ps.length)
 (B:∀ (z:Qb) (A:QG) (outer:List Env) (s:Qd) (H:Hp) (vs:List V) (Q:VK) (E:XK),Room k (A.deeper (JW qual (Zj st) s.heap.objs.size f z))->sp vs H Q E ->
  Vc (ZN (Xc P w base) P w K mg base N qual (Zj st) f z A outer s H E) (fun _=>E) ->
  ∃ t,PSs (ZN (Xc P w base) P w K mg base N qual (Zj st) f z A outer s H E) (Xj st) t/\t { nx:=fun _ H'=>Q .non H',rt:=Q } (start N vs) H):FnOk P w K mg base (Xc P w base) (k+1) f fd ps sp:=by
 obtain ⟨oc,od,kV,Y,pm,an,z,Z,W,rfl,lk,G⟩:=F.ex
 exact ZfG lk G S len fun A outer s H vs Q E J I=>B z A outer s H vs Q E J I ZgT
def XN (ea C:Addr):HO:=.ext fun h=>∃ t:Addr,h.get? ea=some { cls:=.ref C,data:=.fields #[.ref t,.none,.none,.none,.bool false,.none] }
def XW (ea C dx:Addr):HO:=.ext fun h=>∃ t:Addr,h.get? ea=some { cls:=.ref C,dict:=some dx,data:=.fields #[.ref t,.none,.none,.none,.bool false,.none] }
structure XF (K:Qa)(C fI:Addr):Prop where
 xc:ZcK K C=true
 init:QA K (.ref C) "__init__"=some (some (.ref fI))
 sa:QA K (.ref C) "__setattr__"=some (some (.builtin "object.__setattr__"))
 nw:QA K (.ref C) "what"=some none
 fn:Sg K (.ref fI)=true
 kp:Gs K (.ref C)=true
def Znl (K:Qa)(ta tv:TE):TS:=fun D σ H=>tv σ H fun y H1=>ta σ H1 fun x H2=>∃ ea C fI,x=.ref ea/\H2 ea=some (XN ea C)/\XF K C fI/\∀ dx,H2 dx=none->dx≠ea->D.nx σ (upd (upd H2 dx (.xd [("what",y)])) ea (XW ea C dx))
section
variable {X:Cx}{o value:Expr}{pos pos':Pos}{ta tv:TE}
theorem Zkj (ha:PE X o ta)(hv:PE X value tv)(hs:JA value (some (.Attribute o "what" pos')) pos.line X.env=pure false):PS X (.Assign [.Attribute o "what" pos'] value pos) (Znl X.K ta tv):=by
 intro pins s σ H D I h
 refine JQ (Zu (hv pins s σ H _ I h) fun u s1 ⟨y,H1,I1,ry,q⟩=>Zu (ha pins s1 σ H1 _ I1 q) fun ov s2 ⟨x,H2,Y,rx,ea,C,fI,ex,B,xf,q2⟩=>?_) hs
 subst ex
 obtain rfl:ov=Ql ea:=rx
 obtain ⟨⟨t,hx⟩,_,_⟩:=(show ObjOk X.prog X.w H2 s2.heap ea (XN ea C) from Y.hok ea _ B)
 obtain ⟨nm,qn,N,bs,bm,sn,sub,ab,col,dd,k0,k1,k2,k3,k5,hC,T⟩:=VL Y.kIn xf.xc
 obtain ⟨Z,g,d,tk,os⟩:=s2
 have G:H2 Z.objs.size=none:=Y.hok.fresh (Qg _)
 have hne:Z.objs.size≠ea:=GI (Qf hx)
 refine ZjW T hC (QN Y.kIn xf.sa) (QN Y.kIn xf.nw) hx rfl rfl (fun c z=>by cases z) fun h' tk' S hns hk=>⟨σ,_,?_,q2 _ G hne⟩
 have W:∀ b,H2 b=none->b≠ea:=fun b e z=>by rw [z,B] at e;cases e
 have ndx:∀ b J,Z.get? b=some J->b≠Z.objs.size:=fun b J e=>Qq (Qf e)
 refine Y.un (h':=h') (t':=tk') ⟨fun b J e n _ _=>hk b J (W b n) e,fun b J e n _ _=>⟨J.slots,hk b J (W b n) e⟩,fun b J e n _=>by rw [Zi (W b n),Zi (ndx b J e)];exact n,fun b J e _=>?_,fun b xs e=>?_,fun b w xs e=>?_,fun b ps e=>?_⟩ fun b w e=>?_
 ·by_cases z:b=ea
  ·rw [z];exact ⟨_,S⟩
  ·exact ⟨J,hk b J z e⟩
 ·rw [Zi (fun z=>by rw [z,B] at e;cases e),Zi (Zp e G)];exact e
 ·rw [Zi (fun z=>by rw [z,B] at e;cases e),Zi (Zp e G)];exact e
 ·exact ⟨#[],by rw [Zi (fun z=>by rw [z,B] at e;cases e),Zi (Zp e G),e];simp⟩
 ·by_cases z:b=ea
  ·subst z;rw [Zh] at e;cases e
   exact ⟨⟨t,S⟩,⟨_,S⟩,fun h1 h2 ⟨t,e⟩ k=>⟨t,k _ e⟩⟩
  ·rw [Zi z] at e
   by_cases z2:b=Z.objs.size
   ·subst z2;rw [Zh] at e;cases e
    refine ⟨_,hns,fun f=>?_⟩
    show RelO (GJ f [("what",y)]) (if f="what" then some u else none)
    by_cases hf:f="what"
    ·rw [if_pos hf,hf];exact ry
    ·rw [if_neg hf]
     have hb:(f == ("what":Str))=false:=beq_eq_false_iff_ne.mpr hf
     simp only [GJ,hb];exact Gn
   ·rw [Zi z2] at e
    refine (Y.hok b w e).stay (fun c u hc q=>?_) (fun c q=>?_) (fun c xs q=>?_)
    ·refine hk c u (fun y=>?_) q
     rcases hc with rfl | hc
     ·exact z y
     ·rw [y,B] at hc;cases hc
    ·rw [Zi (fun y=>by rw [y,B] at q;cases q),Zi (Zp q G)];exact q
    ·rw [Zi (fun y=>by rw [y,B] at q;cases q),Zi (Zp q G)];exact q
end
def ZhB (K:Qa):Sp:=fun vs H Q _=>∃ (ea C fI:Addr) (v:V),vs=[.ref ea,v]/\H ea=some (XN ea C)/\XF K C fI/\∀ dx,H dx=none->dx≠ea->Q .non (upd (upd H dx (.xd [("what",v)])) ea (XW ea C dx))
def Zdn (P:Qj)(w:Qr)(K:Qa)(mg:Str->Option Qb)(base:Heap)(k:Nat)(C:Addr)(x:Str):Prop :=
 ∃ fI fd,FnOk P w K mg base ZH k fI fd ["self","what"] (ZhB K)/\Binds K fd ["self","what"] []/\XF K C fI/\mg x=some (.ref C)
def Zmu (C:Addr)(EE:St->XK)(t:TA):TS:=fun _ σ H=>t σ H fun vs H1=>∃ v,vs=[v]/\∀ dx,H1 dx=none->EE σ (.ref C) (some dx) (upd H1 dx (.xd [("what",v)]))
section
variable {X:Cx}{pins:List (Addr×Obj)}{σ:St}{H:Hp}{s:Qd}
def del (H:Hp)(a:Addr):Hp:=fun b=>if b=a then none else H b
theorem Ua {a b:Addr}(h:b≠a):del H a b=H b:=if_neg h
theorem Inv.untrack {a:Addr}{J:Heap->Prop}(I:Inv X pins σ H s)(e:H a=some (.ext J))(O:X.Old a):Inv X pins σ (del H a) s:=by
 have B:∀ b,H b=none->del H a b=none:=fun b n=>by unfold del;split;rfl;exact n
 refine ⟨I.ok,I.os,I.bare,⟨I.base.keep,I.base.slot,fun b u q n G=>B b (I.base.free b u q n G),I.base.there,fun b xs q=>?_,fun b u xs q=>?_,fun b ps q=>?_⟩,I.loc,I.cell,B _ I.free,fun x c G=>B _ (I.freeC x c G),fun p hp=>?_,fun b u q=>?_,I.len⟩
 ·rw [Ua (O.nt q)];exact I.base.tups b xs q
 ·rw [Ua (O.nf q)];exact I.base.frzs b u xs q
 ·rw [Ua (O.nb q)];exact I.base.tbls b ps q
 ·obtain ⟨e1,W,S⟩:=I.pin p hp
  exact ⟨e1,B _ W,S⟩
 ·by_cases z:b=a
  ·subst z;unfold del at q;rw [if_pos rfl] at q;cases q
  ·rw [Ua z] at q
   exact (I.hok b u q).stay (fun _ _ _ y=>y) (fun c y=>by rw [Ua (fun z=>by rw [z,e] at y;cases y)];exact y) (fun c xs y=>by rw [Ua (fun z=>by rw [z,e] at y;cases y)];exact y)
end
section
variable {X:Cx}{EE:St->XK}{k:Nat}{C:Addr}{x:Str}{np cpos pos:Pos}{e:Expr}{t:TA}
theorem ZcB (W:Vc X EE)(D:Zdn X.prog X.w X.K X.mg X.base k C x)(hr:Room (k+1) X.A)(J:X.calm=true)(ha:PA X [e] t)(hg:Gl X x:=by rfl)(hdb:(x == ("__debug__":Str))=false:=by decide)
 (he:Qz [e] X.env=(false,eval e X.env)::Qz [] X.env:=by rfl) (hpl:(GP cpos (Qz [] X.env)).any (·.1)=false:=by rfl):PS X (.Raise (some (.Call (.Name x np) [e] [] cpos)) none pos) (Zmu C EE t):=by
 obtain ⟨fI,fd,F,hb,xf,hm⟩:=D
 intro pins s σ H D I h
 rw [arm_exec_Raise]
 obtain ⟨nm,qn,N,bs,bm,sn,sub,ab,col,dd,k0,k1,k2,k3,k5,hCb,T⟩:=VL I.ok.mod.kin xf.xc
 refine Qe (Gr (ZjQ (C:=C) (nm:=nm) (q:=qn) (N:=N) (bs:=bs) (sn:=sn) (sub:=sub) (ab:=ab) (col:=col) (dd:=dd) (k0:=k0) (k1:=k1) (k2:=k2) (k3:=k3) (k5:=k5) T (I.ok.hd J) (Qe ?_)))
 refine QX (Q:=fun v B=>∃ e oe vs,v=.ref e/\B.heap.get? C=some (GN nm qn C N bs bm true sn sub ab col dd k0 k1 k2 k3 k5 "ValueError.__new__")/\B.heap.get? e=some oe/\oe.cls=.ref C/\oe.data=.fields vs/\vs[1]?=some .none/\X.xe (.ref e) B) ?_ (fun v s1 h1=>Qe (Gr (Qu h1))) fun _ _ x=>x
 refine QP (WM I hg hm ?_ hdb)
 refine Ja (h₀:=X.base) I.ok.mod.kin xf.kp (Zu (ha cpos pins s σ H _ I h) fun us s1 ⟨vs,H1,G,r,v,ev,q⟩=>⟨G.kIn,?_⟩) he hpl
 subst ev
 obtain ⟨u,rfl,ru⟩:=YC r
 obtain ⟨hh,g,d,tk,os⟩:=s1
 have hC1:=G.bk _ _ hCb
 obtain ⟨oI,hoI,hoc⟩:∃ oI,hh.get? fI=some oI/\oI.cls=.type "function":=by
  obtain ⟨oI,ho,hc⟩:=JP.mp (show (X.K.lookup fI).map (·.cls)=some (.type "function") from beq_iff_eq.mp xf.fn)
  exact ⟨oI,G.kIn _ _ ho,hc⟩
 refine Zmx T hC1 (QN G.kIn xf.init) hoI hoc (fun h' ea Y Z=>?_) (by show 1<=Qh;decide)
 obtain ⟨t0,h0,h1,h2⟩:=Y.there
 have S:H1 ea=none:=G.hok.fresh Z
 have I2:Inv X pins σ (upd H1 ea (XN ea C)) ⟨h',g,d,tk,os⟩:=G.laid (a:=ea) (o:=XN ea C) (h':=h') (t':=tk) Y.keeps Z ⟨⟨t0,h0⟩,⟨_,h0⟩,fun h1 h2 ⟨t,e⟩ k=>⟨t,k _ e⟩⟩
 have hsp:ZhB X.K [.ref ea,v] (upd H1 ea (XN ea C)) (fun w H'=>w=.non/\∃ dx,H1 dx=none/\dx≠ea/\H'=upd (upd (upd H1 ea (XN ea C)) dx (.xd [("what",v)])) ea (XW ea C dx)) E0 :=
  ⟨ea,C,fI,v,rfl,Zh,xf,fun dx h1 h2=>⟨rfl,dx,by rw [Zi h2] at h1;exact h1,h2,rfl⟩⟩
 have r2:Vals [V.ref ea,v] [Ql ea,u]:=.cons rfl (.cons ru .nil)
 refine JV (GK (F.run _ X.stack _ _ ⟨[.ref ea,u],[]⟩ [.ref ea,u] _ _ E0 (hr.make C [u] []) (I2.env0.make C [u] []) (hb _ [.ref ea,u] I2.kIn rfl) r2 hsp) fun r s' hq=>?_)
 cases r with
 | error e=>exact hq.elim
 | ok fl =>
  cases fl with
  | next=>exact QS hq
  | brk=>exact QS hq
  | cont=>exact QS hq
  | ret u' =>
   obtain ⟨w,H3,I3,rw',⟨ew,dx,hdx,hde,eH⟩⟩:=I2.after hq
   subst ew eH
   refine ⟨rw',?_⟩
   have at3:upd (upd (upd H1 ea (XN ea C)) dx (.xd [("what",v)])) ea (XW ea C dx) ea=some (XW ea C dx):=Zh
   obtain ⟨⟨t3,hx3⟩,_,_⟩:=(show ObjOk X.prog X.w _ s'.heap ea (XW ea C dx) from I3.hok ea _ at3)
   have I4:=I3.untrack at3 (G.old S)
   have eq4:del (upd (upd (upd H1 ea (XN ea C)) dx (.xd [("what",v)])) ea (XW ea C dx)) ea=upd H1 dx (.xd [("what",v)]):=by
    funext b
    by_cases z:b=ea
    ·subst z;unfold del;rw [if_pos rfl,Zi (Gg hde)];exact S.symm
    ·rw [Ua z,Zi z]
     by_cases z2:b=dx
     ·subst z2;rw [Zh,Zh]
     ·rw [Zi z2,Zi z2,Zi z]
   rw [eq4] at I4
   refine ⟨ea,_,_,rfl,I3.bk _ _ hCb,hx3,rfl,rfl,rfl,?_⟩
   refine W pins σ H1 _ ⟨hh,g,d,tk,os⟩ s' ea C dx none G I4 (.inl rfl) ⟨?_,by rw [Zi (Gg hde)];exact S,Z,_,_,hx3,rfl,rfl,rfl,rfl⟩ (q dx hdx)
   cases qb:X.base.get? ea with
   | none=>rfl
   | some ob=>have:=G.bk _ _ qb;rw [Y.new] at this;cases this
end
end L2
namespace L2
open PySem PySem.Spec PyProof.Rows
open PySem.Builtin PySem.Builtin.ObjectAttr
section
variable {prog:Qj}{w:Qr}{A:QG}{E:Qb->Qd->Prop}{h:Heap}{g:Array RS}{d:Drawn}{t:Nat}{os:OsState}
variable {nm q:Str}{C N a dx:Addr}{bs bm:List Qb}{sn:List Str}{sub:List Qb}{ab:Bool}{col:Option Bool}{dd:Option Addr}{k0 k1 k2 k3 k5:Option Qb}{name:Str}{v:Qb}{o:Obj}{vs:Array Qb}{mA:Str->Option Qb}
abbrev Zbe (h:Heap)(nm q:Str)(C N:Addr)(bs bm:List Qb)(sn:List Str)(sub:List Qb)(ab:Bool)(col:Option Bool)(dd:Option Addr)(k0 k1 k2 k3 k5:Option Qb):Prop:=h.get? C=some (GN nm q C N bs bm true sn sub ab col dd k0 k1 k2 k3 k5 "ValueError.__new__")
theorem ZfN {M:Rm}{z:Qb}{Q:Unit->Qd->Prop}(T:VT bm)(I:Zbe h nm q C N bs bm sn sub ab col dd k0 k1 k2 k3 k5)
 (Y:h.get? a=some o) (J:o.cls=.ref C) (W:Q () ⟨h,g,d,t,os⟩):Qp M A (Go "BaseException.__getattribute__" ⟨[.ref a,z],[]⟩) Q E ⟨h,g,d,t,os⟩:=by
 have S:builtinKind "BaseException.__getattribute__"=some .slot:=by decide +kernel
 have B:splitId "BaseException.__getattribute__"=some ("BaseException","__getattribute__"):=by decide +kernel
 have G:(Ql C::bm).contains (.type "BaseException")=true:=by rw [contains_cons,T.has PF.hasBase];rfl
 have Z:=PySem.F.args_bexc_ga (.ref a) z
 simp only [Go,S,B]
 refine Qe ?_
 ·unfold isInstance
  repeat (first | (with_reducible refine QJ Y ?_;rw [J]) | (with_reducible refine Gm I ?_;rw [G]) | wp_step)
  exact W
theorem x_by {tk:Tok}{fill z:Bool}{Q:Qb->Qd->Prop}(T:VT bm)(hC:Zbe h nm q C N bs bm sn sub ab col dd k0 k1 k2 k3 k5)
 (Z:GB (Qs prog w) h (QU (.ref C) "__getattribute__") (some (.builtin "BaseException.__getattribute__"))) (LA:GB (Qs prog w) h (QU (.ref C) "__getattr__") none)
 (J:h.get? a=some o) (S:o.cls=.ref C) (hh:handedOut v=pure v)
 (he:∀ (A:QG) (R:Rc->Qd->Prop) (E:Qb->Qd->Prop),R (.done (.ret v)) ⟨h,g,d,t,os⟩->Qp (Qs prog w) A (Ji.«object.__getattribute__» ⟨[.ref a,.str name tk],[]⟩) R E ⟨h,g,d,t,os⟩) (Y:Q v ⟨h,g,d,t,os⟩) :
 Qp (Qs prog w) A (getAttrBy (.ref a) (.str name tk) fill z) Q E ⟨h,g,d,t,os⟩:=by
 have W:=PF
 have f3:=W.ga.bind (.ref a)
 have hx0:(z&&onTheHeap (Jw "BaseException.__getattribute__"))=false:=by cases z<;>rfl
 have G:(Jw "BaseException.__getattribute__" == Jw "object.__getattribute__")=false:=by decide +kernel
 have hx1:(onTheHeap (Ql C)&&Jw "BaseException.__getattribute__" == Jw "object.__getattribute__")=false:=by rw [G];rfl
 have I:∀ {A:QG} {Q:Option Qb->Qd->Prop} {E:Qb->Qd->Prop},Q (some (.builtin "BaseException.__getattribute__")) ⟨h,g,d,t,os⟩->Qp (Qs prog w) A (QU (.ref C) "__getattribute__") Q E ⟨h,g,d,t,os⟩:=fun q=>Z _ _ _ _ (fun _ _ e=>e) q
 have B:∀ {A:QG} {Q:Option Qb->Qd->Prop} {E:Qb->Qd->Prop},Q none ⟨h,g,d,t,os⟩->Qp (Qs prog w) A (QU (.ref C) "__getattr__") Q E ⟨h,g,d,t,os⟩:=fun q=>LA _ _ _ _ (fun _ _ e=>e) q
 repeat (any_goals (first | assumption | (with_reducible refine QJ J ?_;rw [S]) | with_reducible refine I ?_ | with_reducible refine B ?_ | wp_step))
 refine GM W.ga.plain PySem.F.entry_bexc_ga (ZfN T hC J S (he _ _ _ ?_))
 show Qp _ _ (handedOut v) _ _ _
 rw [hh]
 exact Qu Y
theorem ZkU {tk:Tok}{Q:Rc->Qd->Prop}(Y:Zbe h nm q C N bs bm sn sub ab col dd k0 k1 k2 k3 k5)(W:GB (Qs prog w) h (QU (.ref C) name) none)
 (S:h.get? a=some o) (J:o.cls=.ref C) (G:o.dict=some dx) (hd:o.data=.fields vs) (B:h.Ns1 dx mA) (Z:mA name=some v) (hq:Q (.done (.ret v)) ⟨h,g,d,t,os⟩) :
 Qp (Qs prog w) A (Ji.«object.__getattribute__» ⟨[.ref a,.str name tk],[]⟩) Q E ⟨h,g,d,t,os⟩:=by
 have I:∀ {A:QG} {Q:Option Qb->Qd->Prop} {E:Qb->Qd->Prop},Q none ⟨h,g,d,t,os⟩->Qp (Qs prog w) A (QU (.ref C) name) Q E ⟨h,g,d,t,os⟩:=fun q=>W _ _ _ _ (fun _ _ e=>e) q
 unfold Ji.«object.__getattribute__»
 repeat (first | (with_reducible refine QJ S ?_;rw [J]) | (with_reducible refine I ?_) | wp_step)
 split
 ·rename_i c z
  rw [hd] at z;cases z
 unfold instanceDict
 repeat (first | (with_reducible refine QJ S ?_;rw [J]) | with_reducible refine QJ Y ?_ | wp_step)
 rw [G]
 repeat (first | (with_reducible refine wpAny_nsGet B.ns ?_;rw [Z]) | wp_step)
 exact hq
theorem ZdV {R:RC->Qd->Prop}(T:VT bm)(J:Zbe h nm q C N bs bm sn sub ab col dd k0 k1 k2 k3 k5)(I:h.get? a=some o)(G:o.cls=.ref C)(S:R (.ok (.ret (.ref C))) ⟨h,g,d,t,os⟩) :
 JE (Qs prog w) A (.call (.builtin "getset_descriptor.__get__") ⟨[.builtin "object.__class__",.ref a,.ref C],[]⟩) R ⟨h,g,d,t,os⟩:=by
 have B:(⟨h,g,d,t,os⟩:Qd).TypeIs (.builtin "object.__class__") "getset_descriptor":=Jk
 have z:(Ql C::bm).contains (.type (".".intercalate ("object.__class__".cutAt '.').dropLast))=true:=by
  rw [PySem.F.owner_object_class,contains_cons,T.has (b:=true) (by decide +kernel)];rfl
 refine GM PySem.F.slot_gs_get.plain PySem.F.entry_gs_get (PySem.F.slot_gs_get.check _ _ _ _ _ _ _ _ B (PySem.F.args_gs_get _ _ _) ?_)
 repeat (any_goals (first | assumption | (with_reducible refine QJ I ?_;rw [G]) | (with_reducible refine Gm J ?_;rw [z]) | wp_step))
 refine ⟨Jz _ (by decide +kernel),Pw PySem.F.entry_object_class ?_⟩
 repeat (any_goals (first | assumption | (with_reducible refine QJ I ?_;rw [G]) | wp_step))
theorem ZjD {tk:Tok}{Q:Rc->Qd->Prop}(T:VT bm)(I:Zbe h nm q C N bs bm sn sub ab col dd k0 k1 k2 k3 k5)(S:GB (Qs prog w) h (QU (.ref C) "__class__") (some (.builtin "object.__class__")))
 (B:h.get? a=some o) (G:o.cls=.ref C) (hq:Q (.done (.ret (.ref C))) ⟨h,g,d,t,os⟩) :
 Qp (Qs prog w) A (Ji.«object.__getattribute__» ⟨[.ref a,.str "__class__" tk],[]⟩) Q E ⟨h,g,d,t,os⟩:=by
 have z:∀ {A:QG} {Q:Option Qb->Qd->Prop} {E:Qb->Qd->Prop},Q (some (.builtin "object.__class__")) ⟨h,g,d,t,os⟩->Qp (Qs prog w) A (QU (.ref C) "__class__") Q E ⟨h,g,d,t,os⟩:=fun q=>S _ _ _ _ (fun _ _ e=>e) q
 have J:(⟨h,g,d,t,os⟩:Qd).TypeIs (.builtin "object.__class__") "getset_descriptor":=Jk
 have Z:=Jk
 have Y:=PySem.F.slot_gs_get.lookup
 have W:=PySem.F.slot_gs_set.lookup
 repeat (any_goals (first | assumption | (with_reducible refine QJ B ?_;rw [G]) | (with_reducible refine z ?_) | wp_step))
 refine ZdV T I B G ?_
 repeat (any_goals (first | assumption | wp_step))
end
structure XG (K:Qa)(C:Addr):Prop where
 xc:ZcK K C=true
 nw:QA K (.ref C) "what"=some none
 ga:QA K (.ref C) "__getattribute__"=some (some (.builtin "BaseException.__getattribute__"))
 gh:QA K (.ref C) "__getattr__"=some none
 gc:QA K (.ref C) "__class__"=some (some (.builtin "object.__class__"))
theorem ZdI {K:Qa}{C ea:Addr}(G:XG K C):PySem.W.KitX K (.ref ea) (.ref C) (fun h=>∃ o,h.get? ea=some o/\o.cls=.ref C) where
 ty:=fun M h _ p=>by obtain ⟨o,h1,h2⟩:=p;exact h2 ▸ (OQ h1).andThen .now
 it:=fun M h X p=>by
  obtain ⟨nm,S,N,bs,bm,sn,sub,ab,col,dd,k0,k1,k2,k3,k5,B,T⟩:=VL X G.xc
  intro A' Q' E' s' k q
  unfold isType loadHead
  exact Qe (wpAny_loadPart (k _ _ B) (Qu q))
 ne:=fun h Y dd Z n sl X I=>by
  obtain ⟨nm,S,N,bs,bm,sn,sub,ab,col,dd,k0,k1,k2,k3,k5,B,T⟩:=VL X G.xc
  refine Bool.eq_false_iff.mpr fun q=>?_
  have e:C=Y:=Value.ref.inj (beq_iff_eq.mp q)
  subst e
  have z:=congrArg Obj.cls (Qv (B.symm.trans I))
  exact absurd (Value.type.inj z) (by decide)
 ca:=fun {prog w A E Q s} X p k=>by
  obtain ⟨nm,S,N,bs,bm,sn,sub,ab,col,dd,k0,k1,k2,k3,k5,B,T⟩:=VL X G.xc
  obtain ⟨o,h1,h2⟩:=p
  obtain ⟨h,g,d,t,os⟩:=s
  have J:∀ {tk:Tok} {Q:Qb->Qd->Prop} {E:Qb->Qd->Prop} {A:QG},Q (.ref C) ⟨h,g,d,t+1,os⟩->Qp (Qs prog w) A (getAttrBy (.ref ea) (.str "__class__" tk) false) Q E ⟨h,g,d,t+1,os⟩:=fun q =>
   x_by T B (QN X G.ga) (QN X G.gh) h1 h2 rfl (fun A R E r=>ZjD T B (QN X G.gc) h1 h2 r) q
  unfold getAttr? getAttrBy?
  repeat (any_goals (first | assumption | with_reducible apply J | wp_step))
end L2
namespace L2
open PySem PySem.Spec PyProof.Rows
def ZmY (K:Qa)(ta:TE):TE:=fun σ H Q=>ta σ H fun x H1=>∃ (ea C dx:Addr) (fs:List (Str×V)) (v:V),x=.ref ea/\H1 ea=some (XO ea C dx)/\H1 dx=some (.xd fs)/\XG K C/\fs.lookup ("what":Str)=some v/\Q v H1
def TyX (K:Qa)(H:Hp)(x:V)(t:Qb):Prop:=XV K H x t\/∃ ea C dx,x=.ref ea/\t=.ref C/\H ea=some (XO ea C dx)/\XG K C
def rIsi (K:Qa):List V->Hp->VK->Prop:=fun xs H Q=>∃ x c t b,xs=[x,c]/\TyX K H x t/\((∃ D,c=.ref D/\JF K t (.ref D)=some b)\/(∃ T,c=.ty T/\JF K t (.type T)=some b))/\Q (.bl b) H
def ZmK (K:Qa):List V->Hp->VK->Prop:=fun xs H Q=>∃(ea C dx tp:Addr)(Ds:List Addr)(b:Bool),xs=[.ref ea,.ref tp]/\H ea=some (XO ea C dx)/\XG K C/\H tp=some (.tup (Ds.map V.ref))/\PySem.W.kitAny K (.ref C) (Ds.map Ql)=some b/\Q (.bl b) H
section
variable {X:Cx}{e:Expr}{pos:Pos}{ta:TE}
theorem ZkM (he:PE X e ta)(hb:Jv e "what" X.env (eval e X.env)=eval e X.env):PE X (.Attribute e "what" pos) (ZmY X.K ta):=by
 intro pins s σ H Q I h
 refine ZeO hb (Zu (he pins s σ H _ I h) fun u s1 ⟨x,H1,B,rx,ea,C,dx,fs,v,ex,hea,S,G,l,q⟩=>?_)
 subst ex
 obtain rfl:u=Ql ea:=rx
 obtain ⟨⟨oe,vs,J,z,he3,Y⟩,_,_⟩:=(show ObjOk X.prog X.w H1 s1.heap ea (XO ea C dx) from B.hok ea _ hea)
 obtain ⟨mA,Z,hr⟩:=(show ObjOk X.prog X.w H1 s1.heap dx (.xd fs) from B.hok dx _ S)
 obtain ⟨u,hu,ru⟩:=RelO.some_of (v:=v) (o:=mA "what") (by rw [<- l];exact hr "what")
 obtain ⟨nm,qn,N,bs,bm,sn,sub,ab,col,dd,k0,k1,k2,k3,k5,hC,T⟩:=VL B.kIn G.xc
 have hK:=B.kIn
 have I2:=B.tok (s1.toks+1)
 obtain ⟨hh,g,d,tk,os⟩:=s1
 refine Qe (wpAny_mkText ?_)
 exact x_by T hC (QN hK G.ga) (QN hK G.gh) J z (PySem.W.handedOut_of (Zcb ru)) (fun A R E r=>ZkU hC (QN hK G.nw) J z he3 Y Z hu r) ⟨v,H1,I2,ru,q⟩
theorem Zee {pins:List (Addr×Obj)}{σ:St}{H:Hp}{s:Qd}{A:QG}{E:Qb->Qd->Prop}{Q:Qb->Qd->Prop}{c:Qb}{b:Bool}{x:V}{u t:Qb}(I:Inv X pins σ H s)(W:RelV x u)(ty:TyX X.K H x t)(e:JF X.K t c=some b)(h:∀ tk,Q (.bool b) { s with toks:=tk }) :
 Qp (Qs X.prog X.w) A (call (.builtin "isinstance") [u,c]) Q E s:=by
 rcases ty with ty | ⟨ea,C,dx,rfl,rfl,J,G⟩
 ·exact ZbU I W ty e h
 ·cases (show u=Ql ea from W)
  obtain ⟨⟨Y,vs,B,S,_⟩,_,_⟩:=(show ObjOk X.prog X.w H s.heap ea (XO ea C dx) from I.hok ea _ J)
  exact QQ (ZdI G) I.kIn ⟨Y,B,S⟩ e (fun z=>nomatch z) h
theorem ZbI:YD X (.builtin "isinstance") (rIsi X.K):=by
 intro pins s σ H xs us Q I r h
 obtain ⟨x,c,t,b,rfl,ty,J,q⟩:=h
 obtain ⟨u,B,rfl,G,z⟩:=VH r
 rcases J with ⟨D,rfl,e⟩ | ⟨T,rfl,e⟩
 ·cases (show B=Ql D from z)
  exact Zee I G ty e fun tk=>⟨.bl b,H,I.tok tk,rfl,q⟩
 ·cases (show B=Sb T from z)
  exact Zee I G ty e fun tk=>⟨.bl b,H,I.tok tk,rfl,q⟩
theorem Zbb:∀{z:List Addr}{us:List Qb},Vals (z.map V.ref) us->us=z.map Ql
 | [],_,h=>by cases h;rfl
 | D::z,_,h=>by
  cases h with
  | cons r t=>rw [Zbb t,show _=Ql D from r];rfl
theorem ZbQ:YD X (.builtin "isinstance") (ZmK X.K):=by
 intro pins s σ H xs us Q I r h
 obtain ⟨ea,C,dx,tp,Ds,b,rfl,Z,G,B,e,q⟩:=h
 obtain ⟨u,u',rfl,ru,S⟩:=VH r
 cases (show u=Ql ea from ru)
 cases (show u'=Ql tp from S)
 obtain ⟨⟨oe,vs,Y,J,_⟩,_,_⟩:=(show ObjOk X.prog X.w H s.heap ea (XO ea C dx) from I.hok ea _ Z)
 obtain ⟨_,its,rv,p⟩:=(show ObjOk X.prog X.w H s.heap tp (.tup (Ds.map V.ref)) from I.hok tp _ B)
 obtain ⟨⟨oc,odi,oda,osl⟩,h1,h2,n,h3⟩:=p
 dsimp only at h2 h3
 subst h2 h3
 rw [Zbb rv] at h1
 exact PySem.W.kia_tup (ZdI G) I.kIn ⟨oe,Y,J⟩ h1 e (fun z=>nomatch z) fun tk=>⟨.bl b,H,I.tok tk,rfl,q⟩
def ZkI (K:Qa):V->List V->Hp->VK->Prop:=fun x vs H Q=>∃(l:Addr)(ns:List Int)(k:Int),x=.ref l/\vs=[.int k]/\SqL K H l (ns.map V.int)/\k∈ns/\ns.length<=100000/\Q (.int (ns.idxOf k:Nat)) H
end
section
variable {X:Cx}
theorem Zhm:MtR X "list.index" (ZkI X.K):=by
 intro pins s σ H x vs v us Q I rx rv h
 obtain ⟨l,B,k,rfl,rfl,hl,hk,hz,q⟩:=h
 cases rx
 obtain ⟨u,rfl,ru⟩:=YC rv
 obtain ⟨t,rfl⟩:=(show ∃ t,u=Tx k t from ru)
 obtain ⟨z,r,ht,_⟩:=I.list hl
 obtain ⟨⟨cls,dd,Z,sl⟩,n,ho,Y,J,hd⟩:=ht
 have hi:Ra z B:=ZfV r
 have G:=hi.length
 have hj:B.idxOf k < B.length:=List.idxOf_lt_length_iff.mpr hk
 dsimp only at Y J hd
 subst Y J hd
 refine PR TZ ⟨_,ho,rfl⟩ PySem.F.entry_list_index (PySem.F.args_list_index_2 _ _)
  (PySem.SeqAt.list_indexAt l z.toArray n none sl (.int k t) (PY k) (B.idxOf k) (by simpa [G] using hj) (by omega) ?_ ?_) ⟨ho,fun y hy=>(eq_isInt k t hi y (by simpa using hy)).at _ _,⟨.int (B.idxOf k:Nat),H,I.tok _,⟨_,rfl⟩,q⟩⟩
 ·show PY k z[B.idxOf k]=true
  rw [isInt_at k hi _ (by omega) hj]
  simpa using List.getElem_idxOf hj
 ·intro j W S
  show PY k z[j]=false
  rw [isInt_at k hi j (by simpa using W) (by omega)]
  exact ne_of_lt_idxOf S _
end
end L2
namespace L2
open PySem PySem.W PySem.Spec PyProof.Rows
section
variable {X:Cx}
end
end L2
namespace L2
open PySem PySem.Spec PyProof.Rows
section
variable {X:Cx}
end
end L2
namespace L2
open PySem PySem.W PySem.Spec PyProof.Rows
section
variable {X:Cx}{pins:List (Addr×Obj)}{σ:List (Option V)}{H:Hp}{s:Qd}
end
section
variable {cs:Pn}{H H' H2:Hp}{h h':Heap}{b:Addr}{o:Obj}{P:Qj}{w:Qr}{fs:List Addr}
end
section
variable {P:Qj}{w:Qr}{K:Qa}{mg:Str->Option Qb}{base:Heap}{N:List Str}
end
section
variable {X:Cx}{EE:St->XK}{k i:Nat}{x:Str}{p pos:Pos}
end
section
variable {X:Cx}{k j:Nat}{f:Str}{pn:Str}{sp:Sp}{p0 lpos pos:Pos}{args:Arguments}{body:Expr}{sc:Scope}{te:(St->XK)->TE}{c Pl:Addr}
end
section
variable {X:Cx}
end
section
variable {P:Qj}{w:Qr}{K:Qa}{mg:Str->Option Qb}{base:Heap}{k:Nat}{RK:Addr->Str->Prop}{Pl:Addr}{qual:Str}{te:(St->XK)->TE}{σ:St}{H:Hp}{Q:VK}
end
section
variable {X:Cx}{k j:Nat}{RK:Addr->Str->Prop}{f:Str}{pn:Str}{p0 lpos pos:Pos}{args:Arguments}{body:Expr}{sc:Scope}{te:(St->XK)->TE}{c Pl:Addr}
end
end L2
namespace L2
open PySem
section
variable {K:Qa}{CH CR CS CT h d r sp i t lf lu:Addr}{s:Hs}{fs:List Fnd}{us:List Bool}{Δ:Rs}{H:Hp}
end
end L2
namespace L2
open PySem PySem.W
def ZaI (v:Option (Option Qb))(x:String):Bool:=match v with
 | some (some (.builtin b))=>b == x
 | _=>false
def Zcj (v:Option (Option Qb)):Bool:=match v with
 | some none=>true
 | _=>false
def Zci (K:Qa)(CRo C fI:Addr)(cs n1 n2:List Addr)(j:Nat):Bool :=
 ((ZcK K C&&Zcj (QA K (.ref C) "what"))&&(ZaI (QA K (.ref C) "__getattribute__") "BaseException.__getattribute__"&&(Zcj (QA K (.ref C) "__getattr__")&&ZaI (QA K (.ref C) "__class__") "object.__class__"))) &&
 (((match QA K (.ref C) "__init__" with | some (some (.ref a))=>a == fI | _=>false)&&ZaI (QA K (.ref C) "__setattr__") "object.__setattr__")&&keepIn K (.ref C)) &&
 ((exmOne K (.ref C) (.ref CRo) == some true&&kitOne K (.ref C) (.type "ValueError") == some true) &&
  (((QW cs.length).all fun i=>kitOne K (.ref C) (.ref (cs.getD i 0)) == some (decide (i=j)))&&(kitAny K (.ref C) (n1.map Ql) == some false&&kitAny K (.ref C) (n2.map Ql) == some false)))
structure RefK (K:Qa)(CRo:Addr)(cs n1 n2:List Addr)(C:Addr)(j:Nat):Prop where
 g:XG K C
 cat:exmOne K (.ref C) (.ref CRo)=some true
 ve:kitOne K (.ref C) (.type "ValueError")=some true
 is:∀ i,i < cs.length->kitOne K (.ref C) (.ref (cs.getD i 0))=some (decide (i=j))
 no1:kitAny K (.ref C) (n1.map Ql)=some false
 no2:kitAny K (.ref C) (n2.map Ql)=some false
theorem ZcP {v:Option (Option Qb)}{x:String}(h:ZaI v x=true):v=some (some (.builtin x)):=by
 unfold ZaI at h
 split at h
 ·rw [beq_iff_eq.mp h]
 ·cases h
theorem Zdq {v:Option (Option Qb)}(h:Zcj v=true):v=some none:=by
 unfold Zcj at h
 split at h
 ·rfl
 ·cases h
theorem Zdx {K:Qa}{CRo C z:Addr}{cs B G:List Addr}{j:Nat}(h:Zci K CRo C z cs B G j=true):RefK K CRo cs B G C j/\(isFn K (.ref z)=true->XF K C z):=by
 unfold Zci at h
 simp only [QM,beq_iff_eq,all_eq_true,mem_range] at h
 obtain ⟨⟨⟨⟨J,I⟩,W,a4,a5⟩,⟨b1,b2⟩,b3⟩,⟨c1,c2⟩,Y,S,Z⟩:=h
 have g:XG K C:=⟨J,Zdq I,ZcP W,Zdq a4,ZcP a5⟩
 refine ⟨⟨g,c1,c2,Y,S,Z⟩,fun hf=>?_⟩
 have i1:QA K (.ref C) "__init__"=some (some (.ref z)):=by
  split at b1
  ·rename_i e;rw [e,beq_iff_eq.mp b1]
  ·cases b1
 exact ⟨J,i1,ZcP b2,Zdq I,hf,b3⟩
end L2
namespace L2
open PySem
theorem ZlX {v:V}(h:NvV v):(VZ v).canLay0=true:=by
 rcases h with rfl | h
 ·rfl
 ·exact Zgf h
theorem ZkV {v:V}:(VZ v).depth=0:=by cases v<;>rfl
end L2
namespace K23
open PySem L2
def Gd (n:Nat)(d:Jy):Prop:=d.canLay0=true/\d.depth<=n
theorem ZcG {n:Nat}:∀{ds:List Jy},(∀ d∈ds,Gd n d)->Ow ds=true/\Nj ds<=n
 | [],_=>⟨rfl,QF _⟩
 | d::r,h=>by
  obtain ⟨a,b⟩:=ZcG (ds:=r) fun x z=>h x (mem_cons_of_mem _ z)
  obtain ⟨c,e⟩:=h d mem_cons_self
  rw [Ow,Nj,a,c]
  exact ⟨rfl,by omega⟩
theorem VF {n:Nat}{ds:List Jy}(h:∀ d∈ds,Gd n d):Gd (n+1) (.list ds):=by
 obtain ⟨a,b⟩:=ZcG h
 exact ⟨by rw [PyData.canLay0];exact a,by rw [PyData.depth];omega⟩
theorem Zay {n:Nat}{ds:List Jy}(h:∀ d∈ds,Gd n d):Gd (n+1) (.tuple ds):=by
 obtain ⟨a,b⟩:=ZcG h
 exact ⟨by rw [PyData.canLay0];exact a,by rw [PyData.depth];omega⟩
theorem ZdO {n:Nat}(i:Int):Gd n (.int i):=⟨rfl,QF _⟩
theorem Zjz {n:Nat}{v:V}(h:NvV v):Gd n (VZ v):=⟨ZlX h,by rw [ZkV];exact QF _⟩
theorem ZfI {x:Str}(h:XU x):Ou x=true:=ZbH h.2.2 (fun c z=>by unfold UL at z;simp at z;omega)
theorem Vs {n:Nat}{x:Str}(h:Ou x=true):Gd n (.str x):=⟨h,QF _⟩
def ZfR:Stp->Jy
 | .set x v=>.tuple [.str "set",.str x,VZ v]
 | .clr x=>.tuple [.str "clear",.str x]
def UF (NS:List Str)(pls:List ZP):Prop:=∀ q∈pls,q.st.ok NS
open Classical in
noncomputable def prP (NS:List Str) (F:Str->Option V):List (Str×V):=if h:∃ qs,PsOf NS F 0 0 qs/\XR qs then choose h else []
theorem Zls {NS:List Str}{F:Str->Option V}{qs:List (Str×V)}(h:PsOf NS F 0 0 qs)(s:XR qs):qs=prP NS F:=by
 have ex:∃ qs,PsOf NS F 0 0 qs/\XR qs:=⟨qs,h,s⟩
 unfold prP
 rw [dif_pos ex]
 obtain ⟨a,b⟩:=SI ex
 exact Zea s b h.1 a.1 fun z=>(h.2 z.1 z.2).trans (a.2 z.1 z.2).symm
noncomputable def envF (pls:List ZP) (k:Nat):Str->Option V:=(envs pls).getD k fun _=>none
noncomputable def stD (NS:List Str) (pls:List ZP) (k:Nat):PyData:=.tuple [.list ((rd pls k).map fun n:Nat=>PyData.int (n:Int)),(match k with | 0=>.none | k+1=>ZfR (pls.getD k ⟨0,.clr "",0,0⟩).st),.int (tbN pls k:Int),.list ((prP NS (envF pls k)).map ZiX)]
noncomputable def sdD (NS:List Str) (pls:List ZP) (m:Nat):PyData:=.list [.list ((QW (pls.length+1)).map (stD NS pls)),.int (m:Int)]
theorem ZaT {H:Hp}:∀ z:List Nat,DatasOf H (z.map nV) (z.map fun n:Nat=>PyData.int (n:Int))
 | []=>.nil
 | n::r=>.cons (.int _) (ZaT r)
theorem ZbL {H:Hp}:∀{xs:List V}{ds:List Jy}{v:V}{d:Jy},DatasOf H xs ds->DataOf H v d->DatasOf H (xs++[v]) (ds++[d])
 | [],[],_,_,_,h=>.cons h .nil
 | _::_,_::_,_,_,.cons a b,h=>.cons a (ZbL b h)
def DsR (xs:List V)(ds:List Jy):Yv:=fun _ h=>DatasOf h xs ds
instance {xs:List V} {ds:List Jy}:Up (DsR xs ds):=⟨fun h s=>DatasOf.mono s h⟩
def DaR (d:Jy):Yv:=fun a h=>DataOf h (.ref a) d
instance {d:Jy}:Up (DaR d):=⟨fun h s=>DataOf.mono s h⟩
section
variable {P:Qj}{w:Qr}{K:Qa}{mg:Str->Option Qb}{base:Heap}{CR CS Pl Pp:Addr}
theorem Zha {NS:List Str}{pls:List ZP}{nds:List Nd}{z:List (Zn×V)}(I:RInv NS pls nds z){k:Nat}(B:k<=pls.length):(envs pls)[k]?=some (envF pls k)/\∀ x u,envF pls k x=some u->YW u:=by
 have e:(envs pls)[k]?=some (envF pls k):=by
  unfold envF
  rw [getD_eq_getElem?_getD,getElem?_eq_getElem (by rw [Vf];omega)];rfl
 exact ⟨e,(I.tr k _ _ e (Vl B)).2.2⟩
noncomputable abbrev sD (pls:List ZP) (k:Nat):PyData:=match k with | 0=>.none | k+1=>ZfR (pls.getD k ⟨0,.clr "",0,0⟩).st
theorem Zlt {NS:List Str}{pls:List ZP}{i:Nat}{v:V}{Δ:Rs}{H:Hp}(hok:UF NS pls)(S:Sep Δ H)(h:StV pls i v H):Sep ((1,DsR [v] [sD pls i])::Δ) H/\True:=by
 cases i with
 | zero =>
  cases (show v=.non from h)
  exact ⟨Sep.pack (Γ:=[]) S fun h _=>.cons .non .nil,trivial⟩
 | succ i =>
  obtain ⟨a,s,rfl,es,ea⟩:=h
  rw [getElem?_map] at es
  obtain ⟨q,B,rfl⟩:=JP.mp es
  have z:=hok q (mem_of_getElem? B)
  have e:(pls.getD i ⟨0,.clr "",0,0⟩).st=q.st:=by rw [getD_eq_getElem?_getD,B];rfl
  refine ⟨Sep.pack (Γ:=[(a,VP q.st.vs)]) (S.imm ea rfl) fun h G=>.cons ?_ .nil,trivial⟩
  show DataOf h (.ref a) (ZfR (pls.getD i ⟨0,.clr "",0,0⟩).st)
  rw [e]
  have ea:=G.get a
  revert ea z
  generalize q.st=s
  intro z ea
  cases s with
  | set x v=>exact .tup ea (.cons (.str _) (.cons (.str _) (.cons (Zen (.inr z.2)) .nil)))
  | clr x=>exact .tup ea (.cons (.str _) (.cons (.str _) .nil))
def spSd (K:Qa)(CR CS Pp:Addr):Sp:=fun vs H Q _=>∃(NS:List Str)(r:Addr)(pls:List ZP)(nds:List Nd)(tabs:List (Zn×V))(Δ:Rs),vs=[.ref r]/\Yj NS/\Sep ((r,XL K CR CS pls nds tabs)::(Pp,Xn)::Δ) H/\RInv NS pls nds tabs/\UF NS pls/\pls.length<=1000 /\
 ∀ (l:Addr) (H':Hp),Sep ((l,DaR (sdD NS pls nds.length))::(r,XL K CR CS pls nds tabs)::(Pp,Xn)::Δ) H'->Q (.ref l) H'
abbrev nSd:List Str:=["_law_roads","_law_many","_law_found"]
abbrev Ziy:List Str:=["_law_roads"]
theorem scSd:Zo nSd Ziy (Zj s_l_stand):=⟨rfl,rfl,rfl,by decide +kernel,rfl,by decide +kernel,by decide +kernel⟩
theorem ZhF {f:Addr}{fd:Qi}(F:Fun K "_law_stand" "_law_stand" s_l_stand f fd)(T:ZX mg)(TR:Yi K CR)(TC:YG K CS)(J:DefM P w K mg base 10 CR "places" Zfu (Zdi K CR CS))(DR_road:DefM P w K mg base 10 CR "road" Wa (UC K CR CS))(DR_step:DefM P w K mg base 10 CR "step" Uo (Zbu K CR CS))(Y:DefM P w K mg base 10 CR "table" Xm (Wo K CR CS))(W:DefM P w K mg base 10 CR "all_at" Ve (Zfx K CR CS Pp))(Z:DefM P w K mg base 10 CR "store" ZfY (Zjn CR))(DS_made:DefM P w K mg base 10 CS "made" ["self"] (Zcz K CS)):FnOk P w K mg base ZH 11 f fd Ziy (spSd K CR CS Pp):=by
 refine F.ok scSd (fun vs H Q E h=>?_) (fun cdv A outer s H vs Q E hr h=>?_)
 ·obtain ⟨NS,r,pls,nds,B,Δ,rfl,_⟩:=h;rfl
 obtain ⟨NS,r,pls,nds,B,Δ,rfl,N,S,I,hok,hpl,q⟩:=h
 refine' ⟨?t,?h,?r⟩
 case h =>
  conv=>arg 2;whnf
  with_reducible refine' (Zd ?h1 (Zd ?h2 (Zf ?h3)))
  case h1=>exact Zt (i:=1) scSd.nd rfl (Qy rfl) (Uj J TR.cl hr (pv 0))
  case h2=>exact ZfC (i:=2) (CompOk.of nSd s_l_stand rfl rfl (by decide +kernel)) rfl scSd.nd rfl (Qy rfl) (YS rfl T.range (Zb (pv 1) Za))  (fun _ _ _ _ _=>Yw (Zb (Yc DR_road TR.cl hr (pv 0) (Zb (pv 3) Za)) (Zb (Yc DR_step TR.cl hr (pv 0) (Zb (pv 3) Za)) (Zb (Yc Y TR.cl hr (pv 0) (Zb (pv 3) Za)) (Zb (Yc W TR.cl hr (pv 0) (Zb (pv 3) Za)) Za))))) rfl
  case h3=>exact Zl (Yg (Zb (pv 2) (Zb (Uj DS_made TC.cl hr (Uj Z TR.cl hr (pv 0))) Za)))
 try dsimp only [ZN,Cx.nox]
 refine zs3 ?_
 intro zD zS zN2 zN1
 obtain ⟨st,la,ls,lt,lc,SR⟩:=S.get r
 obtain ⟨dx,ob⟩:=SR.get r
 refine ⟨_,rfl,r,dx,_,rfl,ob,ZG (by decide +kernel),r,pls,nds,B,rfl,S.get r,?_⟩
 refine ⟨_,rfl,_,rfl,by omega,by omega,fun D hD=>?_⟩
 have S0:Sep ((0,DsR [] [])::(r,XL K CR CS pls nds B)::(Pp,Xn)::Δ) H:=Sep.pack (Γ:=[]) S fun h _=>.nil
 refine Wt (Yy (show _<=1000+1 by omega)) S0 hD (fun i ys Δ'=>Δ'=(0,DsR ys ((QW i).map (stD NS pls)))::(r,XL K CR CS pls nds B)::(Pp,Xn)::Δ) rfl ?_ ?_
 ·rintro i ys Δ' H1 hi hl rfl S1
  have hk:i<=pls.length:=by omega
  obtain ⟨eF,vF⟩:=Zha I hk
  have R1:=S1.get r
  obtain ⟨st1,la1,ls1,lt1,lc1,SR1⟩:=id R1
  obtain ⟨dx1,ob1⟩:=SR1.get r
  refine ⟨_,rfl,r,dx1,_,rfl,ob1,ZG (by decide +kernel),_,rfl,r,pls,nds,B,i,congrArg (fun z=>[V.ref r,V.int z]) (So _),R1,I.wf,hk,by omega,fun l1 H2 s2 hl1 el1=>?_⟩
  have S2:=S1.made s2 hl1 el1
  have R2:=S2.get r
  obtain ⟨st2,la2,ls2,lt2,lc2,SR2⟩:=id R2
  obtain ⟨dx2,ob2⟩:=SR2.get r
  refine ⟨_,rfl,r,dx2,_,rfl,ob2,ZG (by decide +kernel),_,rfl,r,pls,nds,B,i,congrArg (fun z=>[V.ref r,V.int z]) (So _),R2,hk,fun v hv=>?_⟩
  refine ⟨_,rfl,r,dx2,_,rfl,ob2,ZG (by decide +kernel),_,rfl,r,pls,nds,B,i,congrArg (fun z=>[V.ref r,V.int z]) (So _),R2,hk,?_⟩
  obtain ⟨S3,hd3⟩:=Zlt hok S2 hv
  refine ⟨_,rfl,r,dx2,_,rfl,ob2,ZG (by decide +kernel),_,rfl,NS,r,pls,nds,B,i,_,_,congrArg (fun z=>[V.ref r,V.int z]) (So _),N,(S3.pull Pp).pull r,I,hk,eF,fun fl H3 qs S4 hqs hsr=>?_⟩
  obtain rfl:=Zls hqs hsr
  refine ⟨(by show 4<=Qh;decide),fun t ht=>?_⟩
  generalize hE:upd H3 t _=H4
  have S5:=S4.newE ht hE
  clear hE
  have S6:=(((((S5.pull Pp).pull r).pull D).pull fl).pull l1).pull 1 |>.pull t |>.pull 0
  refine ⟨_,rfl,Sep.swap (Sep.pack (Γ:=[(0,DsR ys ((QW i).map (stD NS pls))),(t,VP [.ref l1,v,.int (tbN pls i:Int),.ref fl]),(1,DsR [v] [sD pls i]),(l1,Ye ((rd pls i).map nV)),(fl,PLs (prP NS (envF pls i)))]) S6 fun h G=>?_)⟩
  rw [Sv,map_append]
  refine ZbL (G.get 0) (.tup (G.get t) (.cons (.lst (G.get l1) (ZaT _)) ?_))
  cases (show DatasOf h [v] [sD pls i] from G.get 1) with
  | cons a b =>
   refine .cons a (.cons (.int _) (.cons ?_ .nil))
   obtain ⟨ts,e1,e2⟩:=G.get fl
   exact .lst e1 (Zaz e2 fun p hp=>vF p.1 p.2 ((hqs.2 p.1 p.2).mp hp).2.2)
 ·rintro ys Δ' H1 rfl hl S1
  obtain ⟨st1,la1,ls1,lt1,lc1,SR1⟩:=S1.get r
  obtain ⟨dx1,ob1⟩:=SR1.get r
  have ST:=SR1.get st1
  obtain ⟨b0,ln,dt,SA⟩:=id ST
  obtain ⟨dxs,obs⟩:=SA.ob
  refine ⟨_,rfl,_,rfl,r,dx1,_,rfl,ob1,ZG (by decide +kernel),r,st1,la1,ls1,lt1,lc1,dx1,rfl,ob1,st1,dxs,_,rfl,obs,ZM ln dt (by decide +kernel) (by decide +kernel),st1,nds,B,rfl,ST,(by show 2<=Qh;decide),fun l hl=>?_⟩
  generalize hE:upd H1 l _=H2
  have S2:=S1.newE hl hE
  clear hE
  refine q l H2 (Sep.pack (Γ:=[(l,Ye [.ref D,.int (nds.length:Int)]),(D,Ye ys),(0,DsR ys _)]) S2 fun h G=>?_)
  have e:((pls.length:Int)+1).toNat=pls.length+1:=by omega
  refine .lst (G.get l) (.cons (.lst (G.get D) ?_) (.cons (.int _) .nil))
  rw [<- e];exact G.get 0
end
section
variable {P:Qj}{w:Qr}{K:Qa}{mg:Str->Option Qb}{base:Heap}{CR CS Pl CP CN:Addr}
def Zfw (pls:List ZP)(k:Int):Prop:=k < 0\/(pls.length:Int) < k
def XE:Sp:=fun _ _ _ _=>False
theorem FnOk.no {CX:_}{k:Nat}{f:Addr}{fd:Qi}{ps:List Str}:FnOk P w K mg base CX k f fd ps XE:=⟨fun _ _ _ _ z=>z.elim,fun _ _ _ _ _ _ _ _ _ _ _ _ _ z=>z.elim⟩
def Zw (K:Qa)(CR CS CP:Addr)(n:Nat):Sp:=fun vs H _ E=>∃ (r:Addr) (pls:List ZP) (nds:List Nd) (tabs:List (Zn×V)) (k:Int) (ws:List V),vs=.ref r::.int k::ws/\ws.length=n/\VR K CR CS r pls nds tabs H/\Zfw pls k/\∀ dx H',Same H H'->H dx=none->H' dx=some (.xd [("what",.int k)])->E (.ref CP) (some dx) H'
theorem ZeF {f:Addr}{fd:Qi}(F:Fun K "check_place" "Roads.check_place" c_Roads_check_place f fd)(T:ZX mg)(Y:Yi K CR)(Z:Zdn P w K mg base 1 CP "NoPlace"):FnOk P w K mg base (Xc P w base) 3 f fd Xl (Zw K CR CS CP 0):=by
 refine F.okX Zjq (fun vs H Q E h=>?_) (fun cdv A outer s H vs Q E hr h W=>?_)
 ·obtain ⟨r,pls,nds,z,k,I,rfl,G,_⟩:=h;cases I with | nil=>rfl | cons=>cases G
 obtain ⟨r,pls,nds,z,k,I,rfl,G,⟨st,J,ls,lt,lc,S⟩,hk,q⟩:=h
 obtain rfl:=length_eq_zero_iff.mp G
 obtain ⟨dx,ob⟩:=S.get r
 refine' ⟨?t,?h,?r⟩
 case h =>
  conv=>arg 2;whnf
  with_reducible refine' (Zf (ZL ?h1 (Zf ?h2) ZV))
  case h1=>exact Vz (Zde ZiY VM Ze (pv 1) (Zv Zy rfl T.len QB (Zb (ZC (pv 0) rfl) Za)))
  case h2=>exact ZcB W Z hr rfl (Zb (pv 1) Za)
 try dsimp only [ZN,Cx.nox]
 refine ⟨_,rfl,_,_,rfl,rfl,_,rfl,Wj (fun c=>?_) (fun c=>?_)⟩
 ·have h0:(0:Int)<=k:=of_decide_eq_true c
  refine ⟨_,rfl,r,CR,dx,_,_,rfl,ob,Y.cl,Y.na,Vu,J,_,rfl,.inl (SqL.of (S.get J)),_,_,rfl,rfl,_,rfl,?_⟩
  rw [decide_eq_false (show ¬ k < (((V.non::pls.map fun q=>V.int (q.ah:Int)).length:Nat):Int) by rw [length_cons,length_map];unfold Zfw at hk;omega)]
  exact Yo ⟨_,rfl,_,rfl,fun d B=>q d _ (Zm B _) B Zh⟩
 ·exact ⟨_,rfl,Yo ⟨_,rfl,_,rfl,fun d B=>q d _ (Zm B _) B Zh⟩⟩
theorem Zgy {f:Addr}{fd:Qi}(F:Fun K "ahead" "Roads.ahead" c_Roads_ahead f fd)(T:ZX mg)(TR:Yi K CR)(z:DefMX P w K mg base 3 CR "check_place" Xl (Zw K CR CS CP 0)):FnOk P w K mg base (Xc P w base) 4 f fd Wv (Zw K CR CS CP 0):=by
 refine F.okX Zjt (fun vs H Q E h=>?_) (fun cdv A outer s H vs Q E J h W=>?_)
 ·obtain ⟨r,pls,nds,B,k,I,rfl,G,_⟩:=h;cases I with | nil=>rfl | cons=>cases G
 obtain ⟨r,pls,nds,B,k,I,rfl,G,R,hk,q⟩:=h
 obtain rfl:=length_eq_zero_iff.mp G
 obtain ⟨st,la,ls,lt,lc,S⟩:=id R
 obtain ⟨dx,Y⟩:=S.get r
 refine' ⟨?t,?h,?r⟩
 case h =>
  conv=>arg 2;whnf
  with_reducible refine' (Zd ?h1 (Zf ?h2))
  case h1=>exact ZA (ZY W z TR.cl J (pv 0) (Zb (pv 1) Za))
  case h2=>exact Zl (Zr Zx (ZC (pv 0) rfl) (pv 1) (fun _ _=>rfl))
 try dsimp only [ZN,Cx.nox]
 refine Vw ?_
 intro zD zS Z
 exact ⟨_,rfl,r,dx,_,rfl,Y,ZG (by decide +kernel),_,rfl,r,pls,nds,B,k,[],rfl,rfl,R,hk,q⟩
theorem ZhJ {f:Addr}{fd:Qi}(F:Fun K "step" "Roads.step" c_Roads_step f fd)(T:ZX mg)(TR:Yi K CR)(z:DefMX P w K mg base 3 CR "check_place" Xl (Zw K CR CS CP 0)):FnOk P w K mg base (Xc P w base) 4 f fd Uo (Zw K CR CS CP 0):=by
 refine F.okX Zjr (fun vs H Q E h=>?_) (fun cdv A outer s H vs Q E J h W=>?_)
 ·obtain ⟨r,pls,nds,B,k,I,rfl,G,_⟩:=h;cases I with | nil=>rfl | cons=>cases G
 obtain ⟨r,pls,nds,B,k,I,rfl,G,R,hk,q⟩:=h
 obtain rfl:=length_eq_zero_iff.mp G
 obtain ⟨st,la,ls,lt,lc,S⟩:=id R
 obtain ⟨dx,Y⟩:=S.get r
 refine' ⟨?t,?h,?r⟩
 case h =>
  conv=>arg 2;whnf
  with_reducible refine' (Zd ?h1 (Zf ?h2))
  case h1=>exact ZA (ZY W z TR.cl J (pv 0) (Zb (pv 1) Za))
  case h2=>exact Zl (Zr Zx (ZC (pv 0) rfl) (pv 1) (fun _ _=>rfl))
 try dsimp only [ZN,Cx.nox]
 refine Vw ?_
 intro zD zS Z
 exact ⟨_,rfl,r,dx,_,rfl,Y,ZG (by decide +kernel),_,rfl,r,pls,nds,B,k,[],rfl,rfl,R,hk,q⟩
theorem ZbV {f:Addr}{fd:Qi}(F:Fun K "table" "Roads.table" c_Roads_table f fd)(T:ZX mg)(TR:Yi K CR)(z:DefMX P w K mg base 3 CR "check_place" Xl (Zw K CR CS CP 0)):FnOk P w K mg base (Xc P w base) 4 f fd Xm (Zw K CR CS CP 0):=by
 refine F.okX Zja (fun vs H Q E h=>?_) (fun cdv A outer s H vs Q E J h W=>?_)
 ·obtain ⟨r,pls,nds,B,k,I,rfl,G,_⟩:=h;cases I with | nil=>rfl | cons=>cases G
 obtain ⟨r,pls,nds,B,k,I,rfl,G,R,hk,q⟩:=h
 obtain rfl:=length_eq_zero_iff.mp G
 obtain ⟨st,la,ls,lt,lc,S⟩:=id R
 obtain ⟨dx,Y⟩:=S.get r
 refine' ⟨?t,?h,?r⟩
 case h =>
  conv=>arg 2;whnf
  with_reducible refine' (Zd ?h1 (Zf ?h2))
  case h1=>exact ZA (ZY W z TR.cl J (pv 0) (Zb (pv 1) Za))
  case h2=>exact Zl (Zr Zx (ZC (pv 0) rfl) (pv 1) (fun _ _=>rfl))
 try dsimp only [ZN,Cx.nox]
 refine Vw ?_
 intro zD zS Z
 exact ⟨_,rfl,r,dx,_,rfl,Y,ZG (by decide +kernel),_,rfl,r,pls,nds,B,k,[],rfl,rfl,R,hk,q⟩
abbrev nRCo:List Str:=["self","place"]
abbrev Zch:List Str:=["self","place"]
theorem ZmQ:Zo nRCo Zch (Zj c_Roads_cost):=⟨rfl,rfl,rfl,by decide +kernel,rfl,by decide +kernel,by decide +kernel⟩
theorem ZhW {f:Addr}{fd:Qi}(F:Fun K "cost" "Roads.cost" c_Roads_cost f fd)(T:ZX mg)(TR:Yi K CR)(z:DefMX P w K mg base 3 CR "check_place" Xl (Zw K CR CS CP 0)):FnOk P w K mg base (Xc P w base) 4 f fd Zch (Zw K CR CS CP 0):=by
 refine F.okX ZmQ (fun vs H Q E h=>?_) (fun cdv A outer s H vs Q E J h W=>?_)
 ·obtain ⟨r,pls,nds,B,k,I,rfl,G,_⟩:=h;cases I with | nil=>rfl | cons=>cases G
 obtain ⟨r,pls,nds,B,k,I,rfl,G,R,hk,q⟩:=h
 obtain rfl:=length_eq_zero_iff.mp G
 obtain ⟨st,la,ls,lt,lc,S⟩:=id R
 obtain ⟨dx,Y⟩:=S.get r
 refine' ⟨?t,?h,?r⟩
 case h =>
  conv=>arg 2;whnf
  with_reducible refine' (Zd ?h1 (Zf ?h2))
  case h1=>exact ZA (ZY W z TR.cl J (pv 0) (Zb (pv 1) Za))
  case h2=>exact Zl (Zr Zx (ZC (pv 0) rfl) (pv 1) (fun _ _=>rfl))
 try dsimp only [ZN,Cx.nox]
 refine Vw ?_
 intro zD zS Z
 exact ⟨_,rfl,r,dx,_,rfl,Y,ZG (by decide +kernel),_,rfl,r,pls,nds,B,k,[],rfl,rfl,R,hk,q⟩
theorem ZdS {f:Addr}{fd:Qi}(F:Fun K "road" "Roads.road" c_Roads_road f fd)(T:ZX mg)(TR:Yi K CR)(z:DefMX P w K mg base 4 CR "ahead" Wv (Zw K CR CS CP 0)):FnOk P w K mg base (Xc P w base) 5 f fd Wa (Zw K CR CS CP 0):=by
 refine F.okX scRRo (fun vs H Q E h=>?_) (fun cdv A outer s H vs Q E hr h W=>?_)
 ·obtain ⟨r,pls,nds,B,k,Z,rfl,I,_⟩:=h;cases Z with | nil=>rfl | cons=>cases I
 obtain ⟨r,pls,nds,B,k,Z,rfl,I,R,hk,q⟩:=h
 obtain rfl:=length_eq_zero_iff.mp I
 obtain ⟨st,la,ls,lt,lc,S⟩:=id R
 obtain ⟨dx,ob⟩:=S.get r
 refine' ⟨?t,?h,?r⟩
 case h =>
  conv=>arg 2;whnf
  with_reducible refine' (Zd ?h1 (Zd ?h2 (Zd (UZ ?h3 ?h4 (Zd ?h5 (Zf ?h6))) (Zf ?h7))))
  case h1=>exact Zt (i:=2) scRRo.nd rfl (Qy rfl) (Yg Za)
  case h2=>exact Zt (i:=3) scRRo.nd rfl (Qy rfl) (pv 1)
  case h3=>exact Ox
  case h4=>exact WB (UA (pv 3))
  case h5=>exact ZA (Yz Qx QC QD Yl (pv 2) (Zb (pv 3) Za))
  case h6=>exact Zt (i:=3) scRRo.nd rfl (Qy rfl) (ZY W z TR.cl hr (pv 0) (Zb (pv 3) Za))
  case h7=>exact Zl (Zej (pv 2))
 try dsimp only [ZN,Cx.nox]
 refine zs4 ?_
 intro zD zS zN3 zN2 zN1
 refine ⟨(by show 0<=Qh;decide),fun l I=>⟨_,rfl,?_⟩⟩
 refine ⟨fun _ σ H'=>σ=[some (.ref r),some (.int k),some (.ref l),some (.int k)]/\Same H H'/\H' l=some (.lst []),⟨0,rfl,Zm I _,Zh⟩,?_⟩
 rintro m σ H2 ⟨rfl,s2,el⟩
 refine ⟨_,rfl,_,rfl,Yo ⟨_,fun σ' H' h=>h,_,rfl,.inl ⟨rfl,_,SqL.of el⟩,_,rfl,l,_,_,rfl,rfl,el,YZ (show 0<=20000 by decide),?_⟩⟩
 have G:∀ c,Same H (upd H2 l c):=fun c b o e=>by rw [Zi (Zp e I)];exact s2 _ _ e
 have R3:=Up.up R (G (.lst ([]++[.int k])))
 obtain ⟨st3,la3,ls3,lt3,lc3,S3⟩:=id R3
 obtain ⟨Y,J⟩:=S3.get r
 exact ⟨_,rfl,r,Y,_,rfl,J,ZG (by decide +kernel),_,rfl,r,pls,nds,B,k,[],rfl,rfl,R3,hk,fun d H' s h1 h2=>q d H' ((G _).trans s) (YQ (G _) h1) h2⟩
theorem Zfc {f:Addr}{fd:Qi}(F:Fun K "length" "Roads.length" c_Roads_length f fd)(T:ZX mg)(Z:Yi K CR)(z:DefMX P w K mg base 5 CR "road" Wa (Zw K CR CS CP 0)):FnOk P w K mg base (Xc P w base) 6 f fd Zco (Zw K CR CS CP 0):=by
 refine F.okX ZmC (fun vs H Q E h=>?_) (fun cdv A outer s H vs Q E J h W=>?_)
 ·obtain ⟨r,pls,nds,B,k,I,rfl,G,_⟩:=h;cases I with | nil=>rfl | cons=>cases G
 obtain ⟨r,pls,nds,B,k,I,rfl,G,R,hk,q⟩:=h
 obtain rfl:=length_eq_zero_iff.mp G
 obtain ⟨st,la,ls,lt,lc,S⟩:=id R
 obtain ⟨dx,Y⟩:=S.get r
 refine' ⟨?t,?h,?r⟩
 case h =>
  conv=>arg 2;whnf
  with_reducible refine' (Zf ?h1)
  case h1=>exact Zl (Zs Ys (Zv Zy rfl T.len QB (Zb (ZY W z Z.cl J (pv 0) (Zb (pv 1) Za)) Za)) Ze)
 try dsimp only [ZN,Cx.nox]
 exact ⟨_,rfl,r,dx,_,rfl,Y,ZG (by decide +kernel),_,rfl,r,pls,nds,B,k,[],rfl,rfl,R,hk,q⟩
abbrev nRHs:List Str:=["self","place","name","step"]
abbrev Zcg:List Str:=["self","place","name"]
theorem scRHs:Zo nRHs Zcg (Zj c_Roads_step_has):=⟨rfl,rfl,rfl,by decide +kernel,rfl,by decide +kernel,by decide +kernel⟩
theorem Zkb {f:Addr}{fd:Qi}(F:Fun K "step_has" "Roads.step_has" c_Roads_step_has f fd)(T:ZX mg)(TR:Yi K CR)(z:DefMX P w K mg base 4 CR "step" Uo (Zw K CR CS CP 0)):FnOk P w K mg base (Xc P w base) 5 f fd Zcg (Zw K CR CS CP 1):=by
 refine F.okX scRHs (fun vs H Q E h=>?_) (fun cdv A outer s H vs Q E J h W=>?_)
 ·obtain ⟨r,pls,nds,B,k,G,rfl,I,_⟩:=h;show G.length+1+1=3;omega
 obtain ⟨r,pls,nds,B,k,G,rfl,I,R,hk,q⟩:=h
 obtain ⟨x,rfl⟩:=length_eq_one_iff.mp I
 obtain ⟨st,la,ls,lt,lc,S⟩:=id R
 obtain ⟨dx,Y⟩:=S.get r
 refine' ⟨?t,?h,?r⟩
 case h =>
  conv=>arg 2;whnf
  with_reducible refine' (Zd ?h1 (Zf ?h2))
  case h1=>exact Zt (i:=3) scRHs.nd rfl (Qy rfl) (ZY W z TR.cl J (pv 0) (Zb (pv 1) Za))
  case h2=>exact Zl (Uy (ZlM (UA (pv 3))) (Zbc (Xa ZU (Zr Yd (pv 3) Ze (fun _ _=>rfl)) (pv 2) (ZB _))))
 try dsimp only [ZN,Cx.nox]
 refine Vw ?_
 intro zD zS Z
 exact ⟨_,rfl,r,dx,_,rfl,Y,ZG (by decide +kernel),_,rfl,r,pls,nds,B,k,[],rfl,rfl,R,hk,q⟩
abbrev nRLa:List Str:=["self","place","name","at"]
abbrev Zax:List Str:=["self","place","name"]
theorem scRLa:Zo nRLa Zax (Zj c_Roads_last):=⟨rfl,rfl,rfl,by decide +kernel,rfl,by decide +kernel,by decide +kernel⟩
theorem Zhu {f:Addr}{fd:Qi}(F:Fun K "last" "Roads.last" c_Roads_last f fd)(T:ZX mg)(TR:Yi K CR)(B:DefM P w K mg base 5 CR "ahead" Wv XE)(z:DefMX P w K mg base 5 CR "step_has" Zcg (Zw K CR CS CP 1)):FnOk P w K mg base (Xc P w base) 6 f fd Zax (Zw K CR CS CP 1):=by
 refine F.okX scRLa (fun vs H Q E h=>?_) (fun cdv A outer s H vs Q E hr h W=>?_)
 ·obtain ⟨r,pls,nds,G,k,Z,rfl,Y,_⟩:=h;show Z.length+1+1=3;omega
 obtain ⟨r,pls,nds,G,k,Z,rfl,Y,R,hk,q⟩:=h
 obtain ⟨x,rfl⟩:=length_eq_one_iff.mp Y
 obtain ⟨st,la,ls,lt,lc,S⟩:=id R
 obtain ⟨dx,ob⟩:=S.get r
 refine' ⟨?t,?h,?r⟩
 case h =>
  conv=>arg 2;whnf
  with_reducible refine' (Zd ?h1 (Zd (UZ ?h2 ?h3 (Zf ?h4)) (Zf ?h5)))
  case h1=>exact Zt (i:=3) scRLa.nd rfl (Qy rfl) (pv 1)
  case h2=>exact Ox
  case h3=>exact PW.pt (ZdL (WB (UA (pv 3))) (Zbw (Vz (XD (ZY W z TR.cl hr (pv 0) (Zb (pv 3) (Zb (pv 2) Za)))))))
  case h4=>exact Zt (i:=3) scRLa.nd rfl (Qy rfl) (Yc B TR.cl hr (pv 0) (Zb (pv 3) Za))
  case h5=>exact Zl (pv 3)
 try dsimp only [ZN,Cx.nox]
 refine zs3 ?_
 intro zD zS zN2 zN1
 refine ⟨_,rfl,fun _ σ H'=>σ=[some (.ref r),some (.int k),some x,some (.int k)]/\Same H H',⟨0,rfl,Same.refl H⟩,?_⟩
 rintro m σ H2 ⟨rfl,s2⟩
 have R2:=Up.up R s2
 obtain ⟨st2,la2,ls2,lt2,lc2,S2⟩:=id R2
 obtain ⟨I,J⟩:=S2.get r
 exact ⟨_,rfl,_,rfl,Yo ⟨_,rfl,r,I,_,rfl,J,ZG (by decide +kernel),_,rfl,_,rfl,r,pls,nds,G,k,[x],rfl,rfl,R2,hk,fun d H' s h1 h2=>q d H' (s2.trans s) (YQ s2 h1) h2⟩⟩
abbrev nRWa:List Str:=["self","place","name","found"]
abbrev Zcu:List Str:=["self","place","name"]
theorem scRWa:Zo nRWa Zcu (Zj c_Roads_walked):=⟨rfl,rfl,rfl,by decide +kernel,rfl,by decide +kernel,by decide +kernel⟩
theorem ZfD {f:Addr}{fd:Qi}(F:Fun K "walked" "Roads.walked" c_Roads_walked f fd)(T:ZX mg)(TR:Yi K CR)(z:DefMX P w K mg base 6 CR "last" Zax (Zw K CR CS CP 1)):FnOk P w K mg base (Xc P w base) 7 f fd Zcu (Zw K CR CS CP 1):=by
 refine F.okX scRWa (fun vs H Q E h=>?_) (fun cdv A outer s H vs Q E J h W=>?_)
 ·obtain ⟨r,pls,nds,B,k,G,rfl,I,_⟩:=h;show G.length+1+1=3;omega
 obtain ⟨r,pls,nds,B,k,G,rfl,I,R,hk,q⟩:=h
 obtain ⟨x,rfl⟩:=length_eq_one_iff.mp I
 obtain ⟨st,la,ls,lt,lc,S⟩:=id R
 obtain ⟨dx,Y⟩:=S.get r
 refine' ⟨?t,?h,?r⟩
 case h =>
  conv=>arg 2;whnf
  with_reducible refine' (Zd ?h1 (Zd (ZL ?h2 (Zf ?h3) ZV) (Zf ?h4)))
  case h1=>exact Zt (i:=3) scRWa.nd rfl (Qy rfl) (ZY W z TR.cl J (pv 0) (Zb (pv 1) (Zb (pv 2) Za)))
  case h2=>exact PW.pt (Zfs (WB (Zdu (pv 3))) (ZcU (ZE ZU (Zr Yd (Zr Zx (ZC (pv 0) rfl) (pv 3) (fun _ _=>rfl)) Ze (fun _ _=>rfl)) ZK (ZB _))))
  case h3=>exact Zl Ue
  case h4=>exact Zl (Zr Yd (Zr Zx (ZC (pv 0) rfl) (pv 3) (fun _ _=>rfl)) Ze (fun _ _=>rfl))
 try dsimp only [ZN,Cx.nox]
 refine zs3 ?_
 intro zD zS Z zN1
 exact ⟨_,rfl,r,dx,_,rfl,Y,ZG (by decide +kernel),_,rfl,_,rfl,r,pls,nds,B,k,[x],rfl,rfl,R,hk,q⟩
theorem Zfk {f:Addr}{fd:Qi}(F:Fun K "looked" "Roads.looked" c_Roads_looked f fd)(T:ZX mg)(Y:Yi K CR)(TC:YG K CS)(z:DefM P w K mg base 4 CS "looked" ["self","table","name"] XE)(B:DefMX P w K mg base 4 CR "table" Xm (Zw K CR CS CP 0)):FnOk P w K mg base (Xc P w base) 5 f fd Zcl (Zw K CR CS CP 1):=by
 refine F.okX ZmT (fun vs H Q E h=>?_) (fun cdv A outer s H vs Q E hr h W=>?_)
 ·obtain ⟨r,pls,nds,G,k,ws,rfl,Z,_⟩:=h;show ws.length+1+1=3;omega
 obtain ⟨r,pls,nds,G,k,ws,rfl,Z,R,hk,q⟩:=h
 obtain ⟨x,rfl⟩:=length_eq_one_iff.mp Z
 obtain ⟨st,la,ls,lt,lc,S⟩:=id R
 obtain ⟨dx,ob⟩:=S.get r
 refine' ⟨?t,?h,?r⟩
 case h =>
  conv=>arg 2;whnf
  with_reducible refine' (Zf ?h1)
  case h1=>exact Zl (Yc z TC.cl hr (ZC (pv 0) rfl) (Zb (ZY W B Y.cl hr (pv 0) (Zb (pv 1) Za)) (Zb (pv 2) Za)))
 try dsimp only [ZN,Cx.nox]
 obtain ⟨b0,ln,dt,SA⟩:=S.get st
 obtain ⟨J,I⟩:=SA.ob
 exact ⟨_,rfl,r,CR,dx,_,_,rfl,ob,Y.cl,Y.nk,Ut,st,J,_,rfl,I,ZM ln dt (by decide +kernel) (by decide +kernel),_,rfl,r,dx,_,rfl,ob,ZG (by decide +kernel),_,rfl,r,pls,nds,G,k,[],rfl,rfl,R,hk,q⟩
theorem Zkx {f:Addr}{fd:Qi}(F:Fun K "all_at" "Roads.all_at" c_Roads_all_at f fd)(T:ZX mg)(Z:Yi K CR)(TC:YG K CS)(B:DefM P w K mg base 4 CS "pairs" ["self","table"] XE)(z:DefMX P w K mg base 4 CR "table" Xm (Zw K CR CS CP 0)):FnOk P w K mg base (Xc P w base) 5 f fd Ve (Zw K CR CS CP 0):=by
 refine F.okX Zjb (fun vs H Q E h=>?_) (fun cdv A outer s H vs Q E hr h W=>?_)
 ·obtain ⟨r,pls,nds,G,k,ws,rfl,J,_⟩:=h;cases ws with | nil=>rfl | cons=>cases J
 obtain ⟨r,pls,nds,G,k,ws,rfl,J,R,hk,q⟩:=h
 obtain rfl:=length_eq_zero_iff.mp J
 obtain ⟨st,la,ls,lt,lc,S⟩:=id R
 obtain ⟨dx,ob⟩:=S.get r
 refine' ⟨?t,?h,?r⟩
 case h =>
  conv=>arg 2;whnf
  with_reducible refine' (Zf ?h1)
  case h1=>exact Zl (Yc B TC.cl hr (ZC (pv 0) rfl) (Zb (ZY W z Z.cl hr (pv 0) (Zb (pv 1) Za)) Za))
 try dsimp only [ZN,Cx.nox]
 obtain ⟨b0,ln,dt,SA⟩:=S.get st
 obtain ⟨Y,I⟩:=SA.ob
 exact ⟨_,rfl,r,CR,dx,_,_,rfl,ob,Z.cl,Z.nk,Ut,st,Y,_,rfl,I,ZM ln dt (by decide +kernel) (by decide +kernel),_,rfl,r,dx,_,rfl,ob,ZG (by decide +kernel),_,rfl,r,pls,nds,G,k,[],rfl,rfl,R,hk,q⟩
theorem Zmq {f:Addr}{fd:Qi}(F:Fun K "go_on" "Roads.go_on" c_Roads_go_on f fd)(T:ZX mg)(TR:Yi K CR)(Z:YG K CS)(B:DefM P w K mg base 4 CS "made" ["self"] XE)(I:DefM P w K mg base 4 CS "put" ["self","table","name","value"] XE)(z:DefM P w K mg base 4 CS "without" ["self","table","name"] XE)(G:DefMX P w K mg base 4 CR "table" Xm (Zw K CR CS CP 0)):FnOk P w K mg base (Xc P w base) 5 f fd WK (Zw K CR CS CP 1):=by
 refine F.okX scRGo (fun vs H Q E h=>?_) (fun cdv A outer s H vs Q E Y h W=>?_)
 ·obtain ⟨r,pls,nds,J,k,ws,rfl,hl,_⟩:=h;show ws.length+1+1=3;omega
 obtain ⟨r,pls,nds,J,k,ws,rfl,hl,R,hk,q⟩:=h
 obtain ⟨x,rfl⟩:=length_eq_one_iff.mp hl
 obtain ⟨st,la,ls,lt,lc,S⟩:=id R
 obtain ⟨dx,ob⟩:=S.get r
 refine' ⟨?t,?h,?r⟩
 case h =>
  conv=>arg 2;whnf
  with_reducible refine' (Zd ?h1 (Zd ?h2 (Zd (ZL ?h3 (Zf ?h4) (Zf ?h5)) (Zd ?h6 (Zd ?h7 (Zd ?h8 (Zd ?h9 (Zf ?h10))))))))
  case h1=>exact Zt (i:=3) scRGo.nd rfl (Qy rfl) (ZY W G TR.cl Y (pv 0) (Zb (pv 1) Za))
  case h2=>exact Zt (i:=4) scRGo.nd rfl (Qy rfl) (Uj B Z.cl Y (ZC (pv 0) rfl))
  case h3=>exact ZE ZU (Zr Yd (pv 2) Ze (fun _ _=>rfl)) ZK (ZB _)
  case h4=>exact Zt (i:=3) scRGo.nd rfl (Qy rfl) (Yc I Z.cl Y (ZC (pv 0) rfl) (Zb (pv 3) (Zb (Zr Yd (pv 2) Ze (fun _ _=>rfl)) (Zb (Zr Yd (pv 2) Ze (fun _ _=>rfl)) Za))))
  case h5=>exact Zt (i:=3) scRGo.nd rfl (Qy rfl) (Yc z Z.cl Y (ZC (pv 0) rfl) (Zb (pv 3) (Zb (Zr Yd (pv 2) Ze (fun _ _=>rfl)) Za)))
  case h6=>exact ZA (Yz Qx QC QD Yl (ZC (pv 0) rfl) (Zb (pv 1) Za))
  case h7=>exact ZA (Yz Qx QC QD Yl (ZC (pv 0) rfl) (Zb (pv 2) Za))
  case h8=>exact ZA (Yz Qx QC QD Yl (ZC (pv 0) rfl) (Zb (pv 3) Za))
  case h9=>exact ZA (Yz Qx QC QD Yl (ZC (pv 0) rfl) (Zb (Zs Ys (Uj B Z.cl Y (ZC (pv 0) rfl)) (pv 4)) Za))
  case h10=>exact Zl (Zs Ys (Zv Zy rfl T.len QB (Zb (ZC (pv 0) rfl) Za)) Ze)
 try dsimp only [ZN,Cx.nox]
 refine zs8 ?_
 intro zD zS zN7 zN6 zN5 zN4 zN3 zN2 zN1
 exact ⟨_,rfl,r,dx,_,rfl,ob,ZG (by decide +kernel),_,rfl,r,pls,nds,J,k,[],rfl,rfl,R,hk,q⟩
theorem ZjO {f:Addr}{fd:Qi}(F:Fun K "put" "Roads.put" c_Roads_put f fd)(T:ZX mg)(Z:Yi K CR)(z:DefMX P w K mg base 5 CR "go_on" WK (Zw K CR CS CP 1)):FnOk P w K mg base (Xc P w base) 6 f fd Vd (Zw K CR CS CP 2):=by
 refine F.okX Zjf (fun vs H Q E h=>?_) (fun cdv A outer s H vs Q E J h W=>?_)
 ·obtain ⟨r,pls,nds,B,k,G,rfl,I,_⟩:=h;show G.length+1+1=4;omega
 obtain ⟨r,pls,nds,B,k,G,rfl,I,R,hk,q⟩:=h
 obtain ⟨x,y,rfl⟩:∃ x y,G=[x,y]:=match G,I with | [x,y],_=>⟨x,y,rfl⟩
 obtain ⟨st,la,ls,lt,lc,S⟩:=id R
 obtain ⟨dx,Y⟩:=S.get r
 refine' ⟨?t,?h,?r⟩
 case h =>
  conv=>arg 2;whnf
  with_reducible refine' (Zf ?h1)
  case h1=>exact Zl (ZY W z Z.cl J (pv 0) (Zb (pv 1) (Zb (Yw (Zb ZK (Zb (pv 2) (Zb (pv 3) Za)))) Za)))
 try dsimp only [ZN,Cx.nox]
 refine ⟨_,rfl,r,dx,_,rfl,Y,ZG (by decide +kernel),_,rfl,_,rfl,_,rfl,(by show 3<=Qh;decide),fun t ht=>?_⟩
 have s1:=Zm ht (.tup [.str "set",x,y])
 exact ⟨r,pls,nds,B,k,[.ref t],rfl,rfl,Up.up R s1,hk,fun d H' s h1 h2=>q d H' (s1.trans s) (YQ s1 h1) h2⟩
theorem Zki {f:Addr}{fd:Qi}(F:Fun K "clear" "Roads.clear" c_Roads_clear f fd)(T:ZX mg)(Z:Yi K CR)(z:DefMX P w K mg base 5 CR "go_on" WK (Zw K CR CS CP 1)):FnOk P w K mg base (Xc P w base) 6 f fd UP (Zw K CR CS CP 1):=by
 refine F.okX Zjh (fun vs H Q E h=>?_) (fun cdv A outer s H vs Q E J h W=>?_)
 ·obtain ⟨r,pls,nds,B,k,G,rfl,I,_⟩:=h;show G.length+1+1=3;omega
 obtain ⟨r,pls,nds,B,k,G,rfl,I,R,hk,q⟩:=h
 obtain ⟨x,rfl⟩:=length_eq_one_iff.mp I
 obtain ⟨st,la,ls,lt,lc,S⟩:=id R
 obtain ⟨dx,Y⟩:=S.get r
 refine' ⟨?t,?h,?r⟩
 case h =>
  conv=>arg 2;whnf
  with_reducible refine' (Zf ?h1)
  case h1=>exact Zl (ZY W z Z.cl J (pv 0) (Zb (pv 1) (Zb (Yw (Zb ZK (Zb (pv 2) Za))) Za)))
 try dsimp only [ZN,Cx.nox]
 refine ⟨_,rfl,r,dx,_,rfl,Y,ZG (by decide +kernel),_,rfl,_,rfl,(by show 2<=Qh;decide),fun t ht=>?_⟩
 have s1:=Zm ht (.tup [.str "clear",x])
 exact ⟨r,pls,nds,B,k,[.ref t],rfl,rfl,Up.up R s1,hk,fun d H' s h1 h2=>q d H' (s1.trans s) (YQ s1 h1) h2⟩
def orS (a b:Sp):Sp:=fun vs H Q E=>a vs H Q E\/b vs H Q E
def Zcy (pls:List ZP)(e l k:Int):Prop:=Zfw pls k/\(k=e\/(k=l/\∃ e':Nat,e=(e':Int)/\e'<=pls.length))
def XY (K:Qa)(CR CS CP:Addr):Sp:=fun vs H _ E=>∃ (r:Addr) (pls:List ZP) (nds:List Nd) (tabs:List (Zn×V)) (e l k:Int),vs=[.ref r,.int e,.int l]/\VR K CR CS r pls nds tabs H/\WfP pls/\pls.length<=10000/\Zcy pls e l k/\∀ dx H',Same H H'->H dx=none->H' dx=some (.xd [("what",.int k)])->E (.ref CP) (some dx) H'
abbrev nRBt:List Str:=["self","early","late","road"]
abbrev Zcq:List Str:=["self","early","late"]
theorem scRBt:Zo nRBt Zcq (Zj c_Roads_between):=⟨rfl,rfl,rfl,by decide +kernel,rfl,by decide +kernel,by decide +kernel⟩
theorem Zka {f:Addr}{fd:Qi}(F:Fun K "between" "Roads.between" c_Roads_between f fd)(T:ZX mg)(Y:Yi K CR)(z:DefMX P w K mg base 5 CR "check_place" Xl (orS (UO K CR CS) (Zw K CR CS CP 0)))(G:DefMX P w K mg base 5 CR "road" Wa (Zw K CR CS CP 0))(DE:Zdn P w K mg base 4 CN "NotBehind"):FnOk P w K mg base (Xc P w base) 6 f fd Zcq (XY K CR CS CP):=by
 refine F.okX scRBt (fun vs H Q E h=>?_) (fun cdv A outer s H vs Q E I h W=>?_)
 ·obtain ⟨r,pls,nds,B,e,l,k,rfl,_⟩:=h;rfl
 obtain ⟨r,pls,nds,B,e,l,k,rfl,R,hw,hpl,⟨Z,h⟩,q⟩:=h
 refine' ⟨?t,?h,?r⟩
 case h =>
  conv=>arg 2;whnf
  with_reducible refine' (Zd ?h1 (Zd ?h2 (Zd (ZL ?h3 (Zf ?h4) ZV) (Zf ?h5))))
  case h1=>exact ZA (ZY W z Y.cl I (pv 0) (Zb (pv 1) Za))
  case h2=>exact Zt (i:=3) scRBt.nd rfl (Qy rfl) (ZY W G Y.cl I (pv 0) (Zb (pv 2) Za))
  case h3=>exact ZE Vm (pv 1) (pv 3) rfl
  case h4=>exact ZcB W DE I rfl (Zb (pv 1) Za)
  case h5=>exact Zl (Wm Zbl (pv 3) (Wq (Zs Yq (Yz Qx TZ PySem.F.type_list_index Zhm (pv 3) (Zb (pv 1) Za)) Ze)) XM)
 try dsimp only [ZN,Cx.nox]
 refine zs4 ?_
 intro zD zS zN3 zN2 zN1
 obtain ⟨st,la0,ls0,lt0,lc0,S⟩:=id R
 obtain ⟨dx,J⟩:=S.get r
 refine ⟨_,rfl,r,dx,_,rfl,J,ZG (by decide +kernel),_,rfl,?_⟩
 rcases h with rfl | ⟨rfl,e',rfl,he⟩
 ·exact .inr ⟨r,pls,nds,B,_,[],rfl,rfl,R,Z,q⟩
 ·exact .inl ⟨r,pls,nds,B,e',rfl,R,he,_,rfl,r,dx,_,rfl,J,ZG (by decide +kernel),_,rfl,r,pls,nds,B,_,[],rfl,rfl,R,Z,q⟩
abbrev ZfS:List Str:=["self","one","other","both"]
abbrev Zcp:List Str:=["self","one","other"]
theorem scRMe:Zo ZfS Zcp (Zj c_Roads_meeting):=⟨rfl,rfl,rfl,by decide +kernel,rfl,by decide +kernel,by decide +kernel⟩
theorem ZhS {f:Addr}{fd:Qi}(F:Fun K "meeting" "Roads.meeting" c_Roads_meeting f fd)(T:ZX mg)(Z:Yi K CR)(z:DefMX P w K mg base 5 CR "road" Wa (orS (UC K CR CS) (Zw K CR CS CP 0))):FnOk P w K mg base (Xc P w base) 6 f fd Zcp (XY K CR CS CP):=by
 refine F.okX scRMe (fun vs H Q E h=>?_) (fun cdv A outer s H vs Q E hr h W=>?_)
 ·obtain ⟨r,pls,nds,B,e,l,k,rfl,_⟩:=h;rfl
 obtain ⟨r,pls,nds,B,e,l,k,rfl,R,hw,J,⟨hb,h⟩,q⟩:=h
 refine' ⟨?t,?h,?r⟩
 case h =>
  conv=>arg 2;whnf
  with_reducible refine' (Zd ?h1 (Zf ?h2))
  case h1=>exact Zdl (i:=3) (xa:="place") (xb:="beside") (CompOkT.of ZfS c_Roads_meeting rfl rfl (by decide +kernel)) rfl scRMe.nd rfl (Qy rfl) (ZlL rfl T.zip (ZY W z Z.cl hr (pv 0) (Zb (pv 1) Za)) (ZY W z Z.cl hr (pv 0) (Zb (pv 2) Za))) (fun _ _ _ _ _=>Zek (K:=K) rfl rfl (Ya (i:=4) (show (ZfK ZfS "place" "beside"++(["place","beside"]:List Str)).Nodup by decide +kernel) rfl (Qy rfl) (Tr rfl)) (Ya (i:=5) (show (ZfK ZfS "place" "beside"++(["place","beside"]:List Str)).Nodup by decide +kernel) rfl (Qy rfl) (Tr rfl))) (fun _ _ _ _ _=>ZE ZU (pv 4) (pv 5) (ZB _)) (fun _ _ _ _ _=>pv 4) rfl
  case h2=>exact Zl (Zr Zx (pv 3) (UN Uc Ze) (fun _ _=>rfl))
 try dsimp only [ZN,Cx.nox]
 refine Vw ?_
 intro zD zS zN1
 obtain ⟨st,la0,ls0,lt0,lc0,S⟩:=id R
 obtain ⟨dx,ob⟩:=S.get r
 refine ⟨_,rfl,r,dx,_,rfl,ob,ZG (by decide +kernel),_,rfl,?_⟩
 rcases h with rfl | ⟨rfl,e',rfl,he⟩
 ·exact .inr ⟨r,pls,nds,B,_,[],rfl,rfl,R,hb,q⟩
 ·refine .inl ⟨r,pls,nds,B,e',rfl,R,hw,he,J,fun l1 H1 s1 hl1 el1=>?_⟩
  have Y:=Up.up R s1
  obtain ⟨st1,la1,ls1,lt1,lc1,S1⟩:=id Y
  obtain ⟨I,G⟩:=S1.get r
  exact ⟨_,rfl,r,I,_,rfl,G,ZG (by decide +kernel),_,rfl,.inr ⟨r,pls,nds,B,_,[],rfl,rfl,Y,hb,fun d H' s h1 h2=>q d H' (s1.trans s) (YQ s1 h1) h2⟩⟩
abbrev nRUn:List Str:=["self","one","other","names","looks"]
abbrev Zcx:List Str:=["self","one","other"]
theorem scRUn:Zo nRUn Zcx (Zj c_Roads_unlike):=⟨rfl,rfl,rfl,by decide +kernel,rfl,by decide +kernel,by decide +kernel⟩
theorem Zkg {f:Addr}{fd:Qi}(F:Fun K "unlike" "Roads.unlike" c_Roads_unlike f fd)(T:ZX mg)(G:Yi K CR)(z:DefMX P w K mg base 5 CR "table" Xm (orS (Wo K CR CS) (Zw K CR CS CP 0)))(I:Def P w K mg base 5 "differing" ["store","one","other"] XE):FnOk P w K mg base (Xc P w base) 6 f fd Zcx (XY K CR CS CP):=by
 refine F.okX scRUn (fun vs H Q E h=>?_) (fun cdv A outer s H vs Q E Y h W=>?_)
 ·obtain ⟨r,pls,nds,B,e,l,k,rfl,_⟩:=h;rfl
 obtain ⟨r,pls,nds,B,e,l,k,rfl,R,hw,hpl,⟨Z,h⟩,q⟩:=h
 refine' ⟨?t,?h,?r⟩
 case h =>
  conv=>arg 2;whnf
  with_reducible refine' (Zd ?h1 (Zf ?h2))
  case h1=>exact WF (ZD I Y (Zb (ZC (pv 0) rfl) (Zb (ZY W z G.cl Y (pv 0) (Zb (pv 1) Za)) (Zb (ZY W z G.cl Y (pv 0) (Zb (pv 2) Za)) Za)))) (WZ rfl (Yt (Ya (i:=3) scRUn.nd rfl (Qy rfl)) (Yt (Ya (i:=4) scRUn.nd rfl (Qy rfl)) Wh)))
  case h2=>exact Zl (pv 3)
 try dsimp only [ZN,Cx.nox]
 refine Vw ?_
 intro zD zS zN1
 obtain ⟨st,la0,ls0,lt0,lc0,S⟩:=id R
 obtain ⟨dx,J⟩:=S.get r
 refine ⟨_,rfl,r,CR,dx,_,_,rfl,J,G.cl,G.nk,Ut,_,rfl,r,dx,_,rfl,J,ZG (by decide +kernel),_,rfl,?_⟩
 rcases h with rfl | ⟨rfl,e',rfl,he⟩
 ·exact .inr ⟨r,pls,nds,B,_,[],rfl,rfl,R,Z,q⟩
 ·exact .inl ⟨r,pls,nds,B,e',rfl,R,he,_,rfl,r,dx,_,rfl,J,ZG (by decide +kernel),_,rfl,.inr ⟨r,pls,nds,B,_,[],rfl,rfl,R,Z,q⟩⟩
end
end K23
namespace L2
open PySem PySem.Spec PyProof.Rows PyProof.Rows.KTD
section
variable {δ:Type}{Rr:δ->Qb->Prop}{prog:Qj}{w:Qr}{A:QG}{E:Qb->Qd->Prop}{s:Qd}{a:Addr}{D:List (Str×δ)}{k:Str}{tk:Tok}
end
section
variable {X:Cx}{o e:Expr}{apos cpos:Pos}{te:TE}{d:Addr}{D:List (Str×List V)}
end
end L2
namespace L2
open PySem PySem.Spec PyProof.Rows
section
variable {X:Cx}
end
section
variable {prog:Qj}{w:Qr}{A:QG}{E:Qb->Qd->Prop}{s:Qd}
end
section
variable {X:Cx}
end
section
variable {prog:Qj}{w:Qr}{A:QG}{E:Qb->Qd->Prop}{s:Qd}
end
section
variable {prog:Qj}{w:Qr}{A:QG}{E:Qb->Qd->Prop}{s:Qd}
end
section
variable {X:Cx}
end
section
variable {X:Cx}{pins:List (Addr×Obj)}{σ:St}{H:Hp}{s:Qd}
end
end L2
namespace L2
open PySem
structure FG (K:Qa)(x:Str)(st:Stmt)(f:Addr)(fd:Qi):Prop where
 a:Qm K Qk x=some (some (.ref f))
 F:Fun K x x st f fd
structure FM (K:Qa)(C:Addr)(x q:Str)(st:Stmt)(f:Addr)(fd:Qi):Prop where
 m:Us K C x f
 F:Fun K x q st f fd
structure FGC (K:Qa)(x:Str)(st:Stmt)(f:Addr)(fd:Qi)(c Pl:Addr):Prop where
 a:Qm K Qk x=some (some (.ref f))
 F:FunC K x x st f fd c Pl
structure FMC (K:Qa)(C:Addr)(x q:Str)(st:Stmt)(f:Addr)(fd:Qi)(c Pl:Addr):Prop where
 m:Us K C x f
 F:FunC K x q st f fd c Pl
structure CH (K:Qa)(x:Str)(C:Addr):Prop where
 a:Qm K Qk x=some (some (.ref C))
 c:Cls K C
 ms:Su K C=true
 kp:Gs K (.ref C)=true
structure Bs (P:Qj)(w:Qr)(K:Qa)(mg:Str->Option Qb)(base h:Heap):Prop where
 X:K.In h
 G:h.Ns Qk mg
section
variable {P:Qj}{w:Qr}{K:Qa}{mg:Str->Option Qb}{base h:Heap}{x q:Str}{st:Stmt}{f c Pl C:Addr}{fd:Qi}{k:Nat}{ps:List Str}{sp:Sp}{p1 p2 p3 p4 p5:Str}
theorem FG.df (g:FG K x st f fd)(e:Bs P w K mg base h)(o:FnOk P w K mg base ZH k f fd ps sp)(b:Binds K fd ps []):Def P w K mg base k x ps sp:=⟨f,fd,o,b,g.F.kp,Gq e.X e.G g.a⟩
theorem FGC.df (g:FGC K x st f fd c Pl)(e:Bs P w K mg base h)(o:FnOk P w K mg base ZH k f fd ps sp)(b:Binds K fd ps []):Def P w K mg base k x ps sp:=⟨f,fd,o,b,g.F.kp,Gq e.X e.G g.a⟩
theorem FM.df (g:FM K C x q st f fd)(_:Bs P w K mg base h)(o:FnOk P w K mg base ZH k f fd ps sp)(b:Binds K fd ps []):DefM P w K mg base k C x ps sp:=⟨f,fd,o,b,g.m⟩
theorem FM.di {y:Str}(g:FM K C "__init__" q st f fd)(ch:CH K y C)(e:Bs P w K mg base h)(o:FnOk P w K mg base ZH k f fd ps sp)(b:Binds K fd ps []):ZfM P w K mg base k C y ps sp:=⟨f,fd,o,b,⟨ch.ms,g.m.at_,g.m.fn,ch.kp⟩,Gq e.X e.G ch.a⟩
abbrev BA (x q:Str)(st:Stmt)(us:List Qb)(r:List (Str×Qb)):Prop:=∀(kV doc pm:Qb)(an:Option Addr)(cdv ct:Qb),bindArgs (JG x q (VJ st) (Xj st) (Zj st) .none kV doc pm an cdv ct) ⟨us,[]⟩=pure r
theorem Fun.b1 (F:Fun K x q st f fd)(h:∀ u,BA x q st [u] [(p1,u)]):Binds K fd [p1] []:=F.binds fun a b c d e g us z=>match us,z with | [u],_=>h u a b c d e g
theorem Fun.b2 (F:Fun K x q st f fd)(h:∀ u v,BA x q st [u,v] [(p1,u),(p2,v)]):Binds K fd [p1,p2] []:=F.binds fun a b c d e g us z=>match us,z with | [u,v],_=>h u v a b c d e g
theorem Fun.b3 (F:Fun K x q st f fd)(h:∀ u v y,BA x q st [u,v,y] [(p1,u),(p2,v),(p3,y)]):Binds K fd [p1,p2,p3] []:=F.binds fun a b c d e g us z=>match us,z with | [u,v,y],_=>h u v y a b c d e g
theorem Fun.b4 (F:Fun K x q st f fd)(h:∀ u v y z,BA x q st [u,v,y,z] [(p1,u),(p2,v),(p3,y),(p4,z)]):Binds K fd [p1,p2,p3,p4] []:=F.binds fun a b c d e g us B=>match us,B with | [u,v,y,z],_=>h u v y z a b c d e g
theorem Fun.b5 (F:Fun K x q st f fd)(h:∀ u v y z B,BA x q st [u,v,y,z,B] [(p1,u),(p2,v),(p3,y),(p4,z),(p5,B)]):Binds K fd [p1,p2,p3,p4,p5] []:=F.binds fun a b c d e g us G=>match us,G with | [u,v,y,z,B],_=>h u v y z B a b c d e g
theorem Zhl (F:Fun K x q st f fd)(h:∀ u,BA x q st [u] [(p1,u)])(s:Qd)(v:Qb):SZ s fd ⟨[v],[]⟩ [(p1,v)]:=by
 obtain ⟨Z,Y,kV,z,J,S,B,G,W,rfl,lk,I⟩:=F.ex
 exact .of_eq (h v kV z J S B G)
end
end L2
namespace L2
open PySem PySem.Spec PyProof.Rows
section
variable {X:Cx}
end
section
variable {X:Cx}
end
section
variable {K:Qa}{x q:Str}{st:Stmt}{f:Addr}{fd:Qi}{p1 p2 p3 p4 p5 p6 p7:Str}
end
section
variable {X:Cx}
end
end L2
namespace K23
open PySem L2
theorem Ug {b:Bool}{p q:Prop}(h:b=true)(x:p):if b=true then p else q:=by subst h;exact x
theorem ZO {b:Bool}{p q:Prop}(h:b=false)(x:q):if b=true then p else q:=by subst h;exact x
section
variable {P:Qj}{w:Qr}{K:Qa}{mg:Str->Option Qb}{base:Heap}{CR CS Pl CP CN:Addr}
def Zfm (K:Qa)(CR CS CP:Addr):Sp:=fun vs H _ E=>∃ (r:Addr) (pls:List ZP) (nds:List Nd) (tabs:List (Zn×V)) (i e l k:Int),vs=[.ref r,.int i,.int e,.int l]/\VR K CR CS r pls nds tabs H/\WfP pls/\pls.length<=10000/\10<=i/\i<=14/\Zcy pls e l k/\(i < 12->k=e)/\∀ dx H',Same H H'->H dx=none->H' dx=some (.xd [("what",.int k)])->E (.ref CP) (some dx) H'
abbrev nOt:List Str:=["_law_roads","_law_which","_law_one","_law_other"]
abbrev ZeW:List Str:=["_law_roads","_law_which","_law_one","_law_other"]
theorem scOt:Zo nOt ZeW (Zj s_l_others):=⟨rfl,rfl,rfl,by decide +kernel,rfl,by decide +kernel,by decide +kernel⟩
theorem ZkR {f:Addr}{fd:Qi}(F:Fun K "_law_others" "_law_others" s_l_others f fd)(T:ZX mg)(TR:Yi K CR)(I:DefMX P w K mg base 6 CR "all_at" Ve (Zw K CR CS CP 0))(Y:DefMX P w K mg base 6 CR "cost" Zch (Zw K CR CS CP 0))(B:DefMX P w K mg base 6 CR "meeting" Zcp (XY K CR CS CP))(G:DefMX P w K mg base 6 CR "between" Zcq (XY K CR CS CP))(J:DefMX P w K mg base 6 CR "unlike" Zcx (XY K CR CS CP)):FnOk P w K mg base (Xc P w base) 7 f fd ZeW (Zfm K CR CS CP):=by
 refine F.okX scOt (fun vs H Q E h=>?_) (fun cdv A outer s H vs Q E hr h W=>?_)
 ·obtain ⟨r,pls,nds,z,i,e,l,k,rfl,_⟩:=h;rfl
 obtain ⟨r,pls,nds,z,i,e,l,k,rfl,R,hw,Z,h0,h1,hb,hk,q⟩:=h
 refine' ⟨?t,?h,?r⟩
 case h =>
  conv=>arg 2;whnf
  with_reducible refine' (Zf (ZL ?h1 (Zf ?h2) (Zf (ZL ?h3 (Zf ?h4) (Zf (ZL ?h5 (Zf ?h6) (Zf (ZL ?h7 (Zf ?h8) (Zf ?h9)))))))))
  case h1=>exact ZE ZU (pv 1) Ze (ZB _)
  case h2=>exact ZA (ZY W I TR.cl hr (pv 0) (Zb (pv 2) Za))
  case h3=>exact ZE ZU (pv 1) Ze (ZB _)
  case h4=>exact ZA (ZY W Y TR.cl hr (pv 0) (Zb (pv 2) Za))
  case h5=>exact ZE ZU (pv 1) Ze (ZB _)
  case h6=>exact ZA (ZY W B TR.cl hr (pv 0) (Zb (pv 2) (Zb (pv 3) Za)))
  case h7=>exact ZE ZU (pv 1) Ze (ZB _)
  case h8=>exact ZA (ZY W G TR.cl hr (pv 0) (Zb (pv 2) (Zb (pv 3) Za)))
  case h9=>exact ZA (ZY W J TR.cl hr (pv 0) (Zb (pv 2) (Zb (pv 3) Za)))
 try dsimp only [ZN,Cx.nox]
 obtain ⟨st,la0,ls0,lt0,lc0,S⟩:=id R
 obtain ⟨dx,ob⟩:=S.get r
 rcases (show i=10\/i=11\/i=12\/i=13\/i=14 by omega) with rfl | rfl | rfl | rfl | rfl
 ·obtain rfl:=hk (by decide)
  exact ⟨_,rfl,rfl,_,rfl,Ug (decide_eq_true rfl) ⟨_,rfl,r,dx,_,rfl,ob,ZG (by decide +kernel),_,rfl,r,pls,nds,z,k,[],rfl,rfl,R,hb.1,q⟩⟩
 ·obtain rfl:=hk (by decide)
  exact ⟨_,rfl,rfl,_,rfl,ZO (decide_eq_false (by decide)) ⟨_,rfl,rfl,_,rfl,Ug (decide_eq_true rfl) ⟨_,rfl,r,dx,_,rfl,ob,ZG (by decide +kernel),_,rfl,r,pls,nds,z,k,[],rfl,rfl,R,hb.1,q⟩⟩⟩
 ·exact ⟨_,rfl,rfl,_,rfl,ZO (decide_eq_false (by decide)) ⟨_,rfl,rfl,_,rfl,ZO (decide_eq_false (by decide)) ⟨_,rfl,rfl,_,rfl,Ug (decide_eq_true rfl) ⟨_,rfl,r,dx,_,rfl,ob,ZG (by decide +kernel),_,rfl,_,rfl,r,pls,nds,z,e,l,k,rfl,R,hw,Z,hb,q⟩⟩⟩⟩
 ·exact ⟨_,rfl,rfl,_,rfl,ZO (decide_eq_false (by decide)) ⟨_,rfl,rfl,_,rfl,ZO (decide_eq_false (by decide)) ⟨_,rfl,rfl,_,rfl,ZO (decide_eq_false (by decide)) ⟨_,rfl,rfl,_,rfl,Ug (decide_eq_true rfl) ⟨_,rfl,r,dx,_,rfl,ob,ZG (by decide +kernel),_,rfl,_,rfl,r,pls,nds,z,e,l,k,rfl,R,hw,Z,hb,q⟩⟩⟩⟩⟩
 ·exact ⟨_,rfl,rfl,_,rfl,ZO (decide_eq_false (by decide)) ⟨_,rfl,rfl,_,rfl,ZO (decide_eq_false (by decide)) ⟨_,rfl,rfl,_,rfl,ZO (decide_eq_false (by decide)) ⟨_,rfl,rfl,_,rfl,ZO (decide_eq_false (by decide)) ⟨_,rfl,r,dx,_,rfl,ob,ZG (by decide +kernel),_,rfl,_,rfl,r,pls,nds,z,e,l,k,rfl,R,hw,Z,hb,q⟩⟩⟩⟩⟩
end
abbrev xN17:List Str:=["NoPlace","AtHome","BadRow","Busy","Elsewhere","Known","Missing","NoNode","NoSetting","NoTable","NoTask","NoToken","NotBehind","NoWatcher","NoWorld","OutOfTurn","Used"]
structure ZhQ (K:Qa)(mg:Str->Option Qb)(CRo:Addr)(cs:List Addr):Prop where
 road:mg "RoadError"=some (.ref CRo)
 ve:mg "ValueError"=none
 ex:∀ (i:Nat) {x:Str},xN17[i]?=some x->mg x=some (.ref (cs.getD i 0))
theorem ZjZ {K:Qa}{mg:Str->Option Qb}{CRo:Addr}:∀ {cs:List Addr},mg "RoadError"=some (.ref CRo)->mg "ValueError"=none->xN17.map mg=cs.map (fun c=>some (.ref c))->ZhQ K mg CRo cs:=by
 intro cs G z h
 refine ⟨G,z,fun i x e=>?_⟩
 have h1:(xN17.map mg)[i]?=some (mg x):=by rw [getElem?_map,e];rfl
 rw [h,getElem?_map] at h1
 obtain ⟨c,B,I⟩:=JP.mp h1
 rw [<- I,getD_eq_getElem?_getD,B];rfl
section
variable {P:Qj}{w:Qr}{K:Qa}{mg:Str->Option Qb}{base:Heap}{CR CS Pl CP CN CRo:Addr}{cs:List Addr}
def RKp (K:Qa)(CRo CP:Addr)(cs:List Addr):Prop:=RefK K CRo [cs.getD 0 0] [cs.getD 1 0,cs.getD 2 0,cs.getD 3 0,cs.getD 4 0,cs.getD 5 0,cs.getD 6 0,cs.getD 7 0,cs.getD 8 0,cs.getD 9 0,cs.getD 10 0] [cs.getD 11 0,cs.getD 12 0,cs.getD 13 0,cs.getD 14 0,cs.getD 15 0,cs.getD 16 0] CP 0
def Zjc (K:Qa)(CR CS:Addr):Sp:=fun vs H Q _=>∃(r:Addr)(pls:List ZP)(nds:List Nd)(tabs:List (Zn×V))(i e l:Int)(x:Str),vs=[.ref r,.int i,.int e,.int l,.str x]/\VR K CR CS r pls nds tabs H/\WfP pls/\pls.length<=10000 /\
 ((∃ k:Int,0<=i/\i<=14/\Zcy pls e l k/\(i < 12->k=e)/\∀ H',Same H H'->Q (.int k) H')\/(∃ e':Nat,i=5/\e=(e':Int)/\e'<=pls.length/\∀ H',Same H H'->Q .non H'))
abbrev nRf:List Str:=["_law_roads","_law_which","_law_one","_law_other","_law_name","_law_caught","error"]
abbrev ZhH:List Str:=["_law_roads","_law_which","_law_one","_law_other","_law_name"]
theorem scRf:Zo nRf ZhH (Zj s_l_refused):=⟨rfl,rfl,rfl,by decide +kernel,rfl,by decide +kernel,by decide +kernel⟩
theorem ZlK {f:Addr}{fd:Qi}(F:Fun K "_law_refused" "_law_refused" s_l_refused f fd)(T:ZX mg)(TR:Yi K CR)(TE:ZhQ K mg CRo cs)(DR_put:DefMX P w K mg base 7 CR "put" Vd (Zw K CR CS CP 2))(DR_clear:DefMX P w K mg base 7 CR "clear" UP (Zw K CR CS CP 1))(DR_ahead:DefMX P w K mg base 7 CR "ahead" Wv (Zw K CR CS CP 0))(DR_step:DefMX P w K mg base 7 CR "step" Uo (Zw K CR CS CP 0))(DR_length:DefMX P w K mg base 7 CR "length" Zco (Zw K CR CS CP 0))
 (DR_road:DefMX P w K mg base 7 CR "road" Wa (orS (UC K CR CS) (Zw K CR CS CP 0))) (DR_last:DefMX P w K mg base 7 CR "last" Zax (Zw K CR CS CP 1)) (DR_walked:DefMX P w K mg base 7 CR "walked" Zcu (Zw K CR CS CP 1)) (DR_table:DefMX P w K mg base 7 CR "table" Xm (Zw K CR CS CP 0)) (DR_looked:DefMX P w K mg base 7 CR "looked" Zcl (Zw K CR CS CP 1)) (DOt:ZhN P w K mg base 7 "_law_others" ZeW (Zfm K CR CS CP)) (Y:RKp K CRo CP cs):FnOk P w K mg base ZH 8 f fd ZhH (Zjc K CR CS):=by
 refine F.ok scRf (fun vs H Q E h=>?_) (fun cdv A outer s H vs Q E hr h=>?_)
 ·obtain ⟨r,pls,nds,G,i,e,l,x,rfl,_⟩:=h;rfl
 obtain ⟨r,pls,nds,G,i,e,l,x,rfl,R,hw,hpl,h⟩:=h
 refine' ⟨?t,?h,?r⟩
 case h =>
  conv=>arg 2;whnf
  with_reducible refine' (Zd ?h1 (Zd (ZiA (i:=6) ?h2 ?h3 ?h4 ?h5 ?h6 ?h7 ?h8 ?h9 ?h10 (fun pn Z EE W=>(Zf (ZL ?h11 (Zf ?h12) (Zf (ZL ?h13 (Zf ?h14) (Zf (ZL ?h15 (Zf ?h16) (Zf (ZL ?h17 (Zf ?h18) (Zf (ZL ?h19 (Zf ?h20) (Zf (ZL ?h21 (Zf ?h22) (Zf (ZL ?h23 (Zf ?h24) (Zf (ZL ?h25 (Zf ?h26) (Zf (ZL ?h27 (Zf ?h28) (Zf (ZL ?h29 (Zf ?h30) (Zf ?h31)))))))))))))))))))))) (fun ea Z=>(Zf ?h32))) (Zd (ZL ?h33 (Zf ?h34) ZV) (Zd (ZL ?h35 (Zf ?h36) ZV) (Zd (ZL ?h37 (Zf ?h38) ZV) (Zf ?h39))))))
  case h1=>exact Zt (i:=5) scRf.nd rfl (Qy rfl) Ue
  case h2=>exact rfl
  case h3=>exact rfl
  case h4=>exact rfl
  case h5=>exact scRf.nd
  case h6=>exact rfl
  case h7=>exact rfl
  case h8=>exact rfl
  case h9=>exact TE.road
  case h10=>exact (by decide)
  case h11=>exact ZE ZU (pv 1) Ze (ZB _)
  case h12=>exact ZA (ZY W DR_put TR.cl hr (pv 0) (Zb (pv 2) (Zb (pv 4) (Zb Ze Za))))
  case h13=>exact ZE ZU (pv 1) Ze (ZB _)
  case h14=>exact ZA (ZY W DR_clear TR.cl hr (pv 0) (Zb (pv 2) (Zb (pv 4) Za)))
  case h15=>exact ZE ZU (pv 1) Ze (ZB _)
  case h16=>exact ZA (ZY W DR_ahead TR.cl hr (pv 0) (Zb (pv 2) Za))
  case h17=>exact ZE ZU (pv 1) Ze (ZB _)
  case h18=>exact ZA (ZY W DR_step TR.cl hr (pv 0) (Zb (pv 2) Za))
  case h19=>exact ZE ZU (pv 1) Ze (ZB _)
  case h20=>exact ZA (ZY W DR_length TR.cl hr (pv 0) (Zb (pv 2) Za))
  case h21=>exact ZE ZU (pv 1) Ze (ZB _)
  case h22=>exact ZA (ZY W DR_road TR.cl hr (pv 0) (Zb (pv 2) Za))
  case h23=>exact ZE ZU (pv 1) Ze (ZB _)
  case h24=>exact ZA (ZY W DR_last TR.cl hr (pv 0) (Zb (pv 2) (Zb (pv 4) Za)))
  case h25=>exact ZE ZU (pv 1) Ze (ZB _)
  case h26=>exact ZA (ZY W DR_walked TR.cl hr (pv 0) (Zb (pv 2) (Zb (pv 4) Za)))
  case h27=>exact ZE ZU (pv 1) Ze (ZB _)
  case h28=>exact ZA (ZY W DR_table TR.cl hr (pv 0) (Zb (pv 2) Za))
  case h29=>exact ZE ZU (pv 1) Ze (ZB _)
  case h30=>exact ZA (ZY W DR_looked TR.cl hr (pv 0) (Zb (pv 2) (Zb (pv 4) Za)))
  case h31=>exact ZA (ZmU W DOt hr (Zb (pv 0) (Zb (pv 1) (Zb (pv 2) (Zb (pv 3) Za)))))
  case h32=>exact Zt (i:=5) scRf.nd rfl (Qy rfl) (pv 6)
  case h33=>exact WB (Zdu (pv 5))
  case h34=>exact Zl Ue
  case h35=>exact XD (Zv ZbQ rfl T.isinstance (by decide +kernel) (Zb (pv 5) (Zb (Yw (YU (ZT (v:=.ref _) rfl (TE.ex 1 rfl) rfl) (YU (ZT (v:=.ref _) rfl (TE.ex 2 rfl) rfl) (YU (ZT (v:=.ref _) rfl (TE.ex 3 rfl) rfl) (YU (ZT (v:=.ref _) rfl (TE.ex 4 rfl) rfl) (YU (ZT (v:=.ref _) rfl (TE.ex 5 rfl) rfl) (YU (ZT (v:=.ref _) rfl (TE.ex 6 rfl) rfl) (YU (ZT (v:=.ref _) rfl (TE.ex 7 rfl) rfl) (YU (ZT (v:=.ref _) rfl (TE.ex 8 rfl) rfl) (YU (ZT (v:=.ref _) rfl (TE.ex 9 rfl) rfl) (YU (ZT (v:=.ref _) rfl (TE.ex 10 rfl) rfl) Za rfl) rfl) rfl) rfl) rfl) rfl) rfl) rfl) rfl) rfl)) Za)))
  case h36=>exact Zl ZK
  case h37=>exact XD (Zv ZbQ rfl T.isinstance (by decide +kernel) (Zb (pv 5) (Zb (Yw (YU (ZT (v:=.ref _) rfl (TE.ex 11 rfl) rfl) (YU (ZT (v:=.ref _) rfl (TE.ex 12 rfl) rfl) (YU (ZT (v:=.ref _) rfl (TE.ex 13 rfl) rfl) (YU (ZT (v:=.ref _) rfl (TE.ex 14 rfl) rfl) (YU (ZT (v:=.ref _) rfl (TE.ex 15 rfl) rfl) (YU (ZT (v:=.ref _) rfl (TE.ex 16 rfl) rfl) Za rfl) rfl) rfl) rfl) rfl) rfl)) Za)))
  case h38=>exact Zl ZK
  case h39=>exact Zl (XJ (PW.pt (ZdL (XD (Zv ZbI rfl T.isinstance (by decide +kernel) (Zb (pv 5) (Zb (ZT (v:=.ref _) rfl (TE.ex 0 rfl) rfl) Za)))) (Zbw (XD (Zv ZbI rfl T.isinstance (by decide +kernel) (Zb (pv 5) (Zb (Zby rfl TE.ve (by decide +kernel) (v:=.ty "ValueError") rfl) Za))))))) (ZkM (pv 5) rfl) ZK)
 try dsimp only [ZN,Cx.nox]
 refine zs6 ?_
 intro zD zS zN5 zN4 zN3 zN2 zN1
 refine ⟨_,rfl,?_⟩
 have J:∀ (k:Int) (ea d:Addr) (H2:Hp),Same H H2->H2 ea=some (XO ea CP d)->H2 d=some (.xd [("what",.int k)])->(∀ H',Same H H'->Q (.int k) H')->zN2 [some (.ref r),some (.int i),some (.int e),some (.int l),some (.str x),some (.ref ea),none] H2:=by
  intro k ea d H2 s2 eea I q
  have ty:∀ H',Same H2 H'->TyX K H' (.ref ea) (.ref CP):=fun H' s=>.inr ⟨ea,CP,d,rfl,rfl,s _ _ eea,Y.g⟩
  refine ⟨_,rfl,_,rfl,Yh ?_⟩
  refine ⟨_,rfl,(by show 10<=Qh;decide),fun tp htp=>?_⟩
  have s3:Same H2 (upd H2 tp (.tup [.ref (cs.getD 1 0),.ref (cs.getD 2 0),.ref (cs.getD 3 0),.ref (cs.getD 4 0),.ref (cs.getD 5 0),.ref (cs.getD 6 0),.ref (cs.getD 7 0),.ref (cs.getD 8 0),.ref (cs.getD 9 0),.ref (cs.getD 10 0)])):=Zm htp _
  refine ⟨ea,CP,d,tp,[cs.getD 1 0,cs.getD 2 0,cs.getD 3 0,cs.getD 4 0,cs.getD 5 0,cs.getD 6 0,cs.getD 7 0,cs.getD 8 0,cs.getD 9 0,cs.getD 10 0],false,rfl,s3 _ _ eea,Y.g,Zh,Y.no1,_,rfl,Yh ?_⟩
  refine ⟨_,rfl,(by show 6<=Qh;decide),fun tq htq=>?_⟩
  have s4:=s3.trans (Zm htq (.tup [.ref (cs.getD 11 0),.ref (cs.getD 12 0),.ref (cs.getD 13 0),.ref (cs.getD 14 0),.ref (cs.getD 15 0),.ref (cs.getD 16 0)]))
  refine ⟨ea,CP,d,tq,[cs.getD 11 0,cs.getD 12 0,cs.getD 13 0,cs.getD 14 0,cs.getD 15 0,cs.getD 16 0],false,rfl,s4 _ _ eea,Y.g,Zh,Y.no2,_,rfl,Yh ?_⟩
  refine ⟨_,rfl,_,_,_,true,rfl,ty _ s4,.inl ⟨_,rfl,Y.is 0 (show 0 < 1 by decide)⟩,_,rfl,Yo ⟨_,rfl,_,_,_,true,rfl,ty _ s4,.inr ⟨_,rfl,Y.ve⟩,_,rfl,Yo ?_⟩⟩
  exact ⟨_,rfl,ea,CP,d,_,_,rfl,s4 _ _ eea,s4 _ _ I,Y.g,rfl,q _ (s2.trans s4)⟩
 obtain ⟨st,la0,ls0,lt0,lc0,S⟩:=id R
 obtain ⟨dx,ob⟩:=S.get r
 rcases h with ⟨k,h0,h1,hb,hk,q⟩ | ⟨e',rfl,rfl,he,q⟩
 ·rcases (show i=0\/i=1\/i=2\/i=3\/i=4\/i=5\/i=6\/i=7\/i=8\/i=9\/10<=i by omega) with rfl | rfl | rfl | rfl | rfl | rfl | rfl | rfl | rfl | rfl | hi
  ·obtain rfl:=hk (by decide)
   exact ⟨rfl,_,rfl,Ug (decide_eq_true rfl) ⟨_,rfl,r,dx,_,rfl,ob,ZG (by decide +kernel),_,rfl,_,rfl,r,pls,nds,G,k,[_,_],rfl,rfl,R,hb.1,fun d H1 s1 hd I=>⟨CP,d,rfl,rfl,Y.cat,fun ea B=>⟨_,rfl,J k ea d _ (s1.trans (Zm B _)) Zh (Zm B _ _ _ I) q⟩⟩⟩⟩
  ·obtain rfl:=hk (by decide)
   exact ⟨rfl,_,rfl,ZO (decide_eq_false (by decide)) ⟨_,rfl,rfl,_,rfl,Ug (decide_eq_true rfl) ⟨_,rfl,r,dx,_,rfl,ob,ZG (by decide +kernel),_,rfl,_,rfl,r,pls,nds,G,k,[_],rfl,rfl,R,hb.1,fun d H1 s1 hd I=>⟨CP,d,rfl,rfl,Y.cat,fun ea B=>⟨_,rfl,J k ea d _ (s1.trans (Zm B _)) Zh (Zm B _ _ _ I) q⟩⟩⟩⟩⟩
  ·obtain rfl:=hk (by decide)
   exact ⟨rfl,_,rfl,ZO (decide_eq_false (by decide)) ⟨_,rfl,rfl,_,rfl,ZO (decide_eq_false (by decide)) ⟨_,rfl,rfl,_,rfl,Ug (decide_eq_true rfl) ⟨_,rfl,r,dx,_,rfl,ob,ZG (by decide +kernel),_,rfl,r,pls,nds,G,k,[],rfl,rfl,R,hb.1,fun d H1 s1 hd I=>⟨CP,d,rfl,rfl,Y.cat,fun ea B=>⟨_,rfl,J k ea d _ (s1.trans (Zm B _)) Zh (Zm B _ _ _ I) q⟩⟩⟩⟩⟩⟩
  ·obtain rfl:=hk (by decide)
   exact ⟨rfl,_,rfl,ZO (decide_eq_false (by decide)) ⟨_,rfl,rfl,_,rfl,ZO (decide_eq_false (by decide)) ⟨_,rfl,rfl,_,rfl,ZO (decide_eq_false (by decide)) ⟨_,rfl,rfl,_,rfl,Ug (decide_eq_true rfl) ⟨_,rfl,r,dx,_,rfl,ob,ZG (by decide +kernel),_,rfl,r,pls,nds,G,k,[],rfl,rfl,R,hb.1,fun d H1 s1 hd I=>⟨CP,d,rfl,rfl,Y.cat,fun ea B=>⟨_,rfl,J k ea d _ (s1.trans (Zm B _)) Zh (Zm B _ _ _ I) q⟩⟩⟩⟩⟩⟩⟩
  ·obtain rfl:=hk (by decide)
   exact ⟨rfl,_,rfl,ZO (decide_eq_false (by decide)) ⟨_,rfl,rfl,_,rfl,ZO (decide_eq_false (by decide)) ⟨_,rfl,rfl,_,rfl,ZO (decide_eq_false (by decide)) ⟨_,rfl,rfl,_,rfl,ZO (decide_eq_false (by decide)) ⟨_,rfl,rfl,_,rfl,Ug (decide_eq_true rfl) ⟨_,rfl,r,dx,_,rfl,ob,ZG (by decide +kernel),_,rfl,r,pls,nds,G,k,[],rfl,rfl,R,hb.1,fun d H1 s1 hd I=>⟨CP,d,rfl,rfl,Y.cat,fun ea B=>⟨_,rfl,J k ea d _ (s1.trans (Zm B _)) Zh (Zm B _ _ _ I) q⟩⟩⟩⟩⟩⟩⟩⟩
  ·obtain rfl:=hk (by decide)
   exact ⟨rfl,_,rfl,ZO (decide_eq_false (by decide)) ⟨_,rfl,rfl,_,rfl,ZO (decide_eq_false (by decide)) ⟨_,rfl,rfl,_,rfl,ZO (decide_eq_false (by decide)) ⟨_,rfl,rfl,_,rfl,ZO (decide_eq_false (by decide)) ⟨_,rfl,rfl,_,rfl,ZO (decide_eq_false (by decide)) ⟨_,rfl,rfl,_,rfl,Ug (decide_eq_true rfl) ⟨_,rfl,r,dx,_,rfl,ob,ZG (by decide +kernel),_,rfl,.inr ⟨r,pls,nds,G,k,[],rfl,rfl,R,hb.1,fun d H1 s1 hd I=>⟨CP,d,rfl,rfl,Y.cat,fun ea B=>⟨_,rfl,J k ea d _ (s1.trans (Zm B _)) Zh (Zm B _ _ _ I) q⟩⟩⟩⟩⟩⟩⟩⟩⟩⟩
  ·obtain rfl:=hk (by decide)
   exact ⟨rfl,_,rfl,ZO (decide_eq_false (by decide)) ⟨_,rfl,rfl,_,rfl,ZO (decide_eq_false (by decide)) ⟨_,rfl,rfl,_,rfl,ZO (decide_eq_false (by decide)) ⟨_,rfl,rfl,_,rfl,ZO (decide_eq_false (by decide)) ⟨_,rfl,rfl,_,rfl,ZO (decide_eq_false (by decide)) ⟨_,rfl,rfl,_,rfl,ZO (decide_eq_false (by decide)) ⟨_,rfl,rfl,_,rfl,Ug (decide_eq_true rfl) ⟨_,rfl,r,dx,_,rfl,ob,ZG (by decide +kernel),_,rfl,_,rfl,r,pls,nds,G,k,[_],rfl,rfl,R,hb.1,fun d H1 s1 hd I=>⟨CP,d,rfl,rfl,Y.cat,fun ea B=>⟨_,rfl,J k ea d _ (s1.trans (Zm B _)) Zh (Zm B _ _ _ I) q⟩⟩⟩⟩⟩⟩⟩⟩⟩⟩
  ·obtain rfl:=hk (by decide)
   exact ⟨rfl,_,rfl,ZO (decide_eq_false (by decide)) ⟨_,rfl,rfl,_,rfl,ZO (decide_eq_false (by decide)) ⟨_,rfl,rfl,_,rfl,ZO (decide_eq_false (by decide)) ⟨_,rfl,rfl,_,rfl,ZO (decide_eq_false (by decide)) ⟨_,rfl,rfl,_,rfl,ZO (decide_eq_false (by decide)) ⟨_,rfl,rfl,_,rfl,ZO (decide_eq_false (by decide)) ⟨_,rfl,rfl,_,rfl,ZO (decide_eq_false (by decide)) ⟨_,rfl,rfl,_,rfl,Ug (decide_eq_true rfl) ⟨_,rfl,r,dx,_,rfl,ob,ZG (by decide +kernel),_,rfl,_,rfl,r,pls,nds,G,k,[_],rfl,rfl,R,hb.1,fun d H1 s1 hd I=>⟨CP,d,rfl,rfl,Y.cat,fun ea B=>⟨_,rfl,J k ea d _ (s1.trans (Zm B _)) Zh (Zm B _ _ _ I) q⟩⟩⟩⟩⟩⟩⟩⟩⟩⟩⟩
  ·obtain rfl:=hk (by decide)
   exact ⟨rfl,_,rfl,ZO (decide_eq_false (by decide)) ⟨_,rfl,rfl,_,rfl,ZO (decide_eq_false (by decide)) ⟨_,rfl,rfl,_,rfl,ZO (decide_eq_false (by decide)) ⟨_,rfl,rfl,_,rfl,ZO (decide_eq_false (by decide)) ⟨_,rfl,rfl,_,rfl,ZO (decide_eq_false (by decide)) ⟨_,rfl,rfl,_,rfl,ZO (decide_eq_false (by decide)) ⟨_,rfl,rfl,_,rfl,ZO (decide_eq_false (by decide)) ⟨_,rfl,rfl,_,rfl,ZO (decide_eq_false (by decide)) ⟨_,rfl,rfl,_,rfl,Ug (decide_eq_true rfl) ⟨_,rfl,r,dx,_,rfl,ob,ZG (by decide +kernel),_,rfl,r,pls,nds,G,k,[],rfl,rfl,R,hb.1,fun d H1 s1 hd I=>⟨CP,d,rfl,rfl,Y.cat,fun ea B=>⟨_,rfl,J k ea d _ (s1.trans (Zm B _)) Zh (Zm B _ _ _ I) q⟩⟩⟩⟩⟩⟩⟩⟩⟩⟩⟩⟩
  ·obtain rfl:=hk (by decide)
   exact ⟨rfl,_,rfl,ZO (decide_eq_false (by decide)) ⟨_,rfl,rfl,_,rfl,ZO (decide_eq_false (by decide)) ⟨_,rfl,rfl,_,rfl,ZO (decide_eq_false (by decide)) ⟨_,rfl,rfl,_,rfl,ZO (decide_eq_false (by decide)) ⟨_,rfl,rfl,_,rfl,ZO (decide_eq_false (by decide)) ⟨_,rfl,rfl,_,rfl,ZO (decide_eq_false (by decide)) ⟨_,rfl,rfl,_,rfl,ZO (decide_eq_false (by decide)) ⟨_,rfl,rfl,_,rfl,ZO (decide_eq_false (by decide)) ⟨_,rfl,rfl,_,rfl,ZO (decide_eq_false (by decide)) ⟨_,rfl,rfl,_,rfl,Ug (decide_eq_true rfl) ⟨_,rfl,r,dx,_,rfl,ob,ZG (by decide +kernel),_,rfl,_,rfl,r,pls,nds,G,k,[_],rfl,rfl,R,hb.1,fun d H1 s1 hd I=>⟨CP,d,rfl,rfl,Y.cat,fun ea B=>⟨_,rfl,J k ea d _ (s1.trans (Zm B _)) Zh (Zm B _ _ _ I) q⟩⟩⟩⟩⟩⟩⟩⟩⟩⟩⟩⟩⟩
  ·exact ⟨rfl,_,rfl,ZO (decide_eq_false fun z=>by cases z;omega) ⟨_,rfl,rfl,_,rfl,ZO (decide_eq_false fun z=>by cases z;omega) ⟨_,rfl,rfl,_,rfl,ZO (decide_eq_false fun z=>by cases z;omega) ⟨_,rfl,rfl,_,rfl,ZO (decide_eq_false fun z=>by cases z;omega) ⟨_,rfl,rfl,_,rfl,ZO (decide_eq_false fun z=>by cases z;omega) ⟨_,rfl,rfl,_,rfl,ZO (decide_eq_false fun z=>by cases z;omega) ⟨_,rfl,rfl,_,rfl,ZO (decide_eq_false fun z=>by cases z;omega) ⟨_,rfl,rfl,_,rfl,ZO (decide_eq_false fun z=>by cases z;omega) ⟨_,rfl,rfl,_,rfl,ZO (decide_eq_false fun z=>by cases z;omega) ⟨_,rfl,rfl,_,rfl,ZO (decide_eq_false fun z=>by cases z;omega) ⟨_,rfl,_,rfl,_,rfl,_,rfl,r,pls,nds,G,i,e,l,k,rfl,R,hw,hpl,hi,h1,hb,hk,fun d H1 s1 hd I=>⟨CP,d,rfl,rfl,Y.cat,fun ea B=>⟨_,rfl,J k ea d _ (s1.trans (Zm B _)) Zh (Zm B _ _ _ I) q⟩⟩⟩⟩⟩⟩⟩⟩⟩⟩⟩⟩⟩
 ·exact ⟨rfl,_,rfl,ZO (decide_eq_false (by decide)) ⟨_,rfl,rfl,_,rfl,ZO (decide_eq_false (by decide)) ⟨_,rfl,rfl,_,rfl,ZO (decide_eq_false (by decide)) ⟨_,rfl,rfl,_,rfl,ZO (decide_eq_false (by decide)) ⟨_,rfl,rfl,_,rfl,ZO (decide_eq_false (by decide)) ⟨_,rfl,rfl,_,rfl,Ug (decide_eq_true rfl) ⟨_,rfl,r,dx,_,rfl,ob,ZG (by decide +kernel),_,rfl,.inl ⟨r,pls,nds,G,e',rfl,R,hw,he,hpl,fun l1 H1 s1 hl1 el1=>⟨_,rfl,_,rfl,Yo (q H1 s1)⟩⟩⟩⟩⟩⟩⟩⟩⟩
end
theorem Zgj {r:Int}(z:0<=r)(h1:r < 26):YK a26.cps.toList r=some (97+r.toNat):=by
 have all:∀ k,k < 26->a26.cps.toList[k]?=some (97+k):=by decide +kernel
 exact Zba z (all r.toNat (by omega))
def nmZ (stem:Str)(at' z:Int):Str:=Txt.slice stem none (some at')++(⟨#[97+(z / 26).toNat]⟩:Str)++(⟨#[97+(z % 26).toNat]⟩:Str)++Txt.slice stem (some at') none
theorem Zkp {B:Str}{G y z:Int}(h:nmZ B G y=nmZ B G z)(Z:0<=y)(y1:y < 676)(z0:0<=z)(Y:z < 676):y=z:=by
 have e:(nmZ B G y).cps.toList=(nmZ B G z).cps.toList:=by rw [h]
 unfold nmZ at e
 simp only [Vj,JK] at e
 have J:=List.append_cancel_left e
 have I:=(Tu (show (97+(y / 26).toNat)::(97+(y % 26).toNat)::_=(97+(z / 26).toNat)::(97+(z % 26).toNat)::_ from J))
 have S:=(Tu I.2).1
 have W:=I.1
 omega
def ZcT:Sp:=fun vs H Q _=>∃(p:Addr)(n:Nat)(many:Int)(Δ:Rs),vs=[.ref p,.int many]/\Sep ((p,Bx n)::Δ) H/\n<=900000/\0<=many/\many<=100 /\
 ∀ (l:Addr) (H':Hp) (xs:List Str),Sep ((l,Ye (xs.map V.str))::(p,Bx (n+20))::Δ) H'->xs.length=many.toNat->(∀ x∈xs,XU x/\2<=x.length)->(2<=many->∃ u v,u∈xs/\v∈xs/\u≠v)->Q (.ref l) H'
section
variable {P:Qj}{w:Qr}{K:Qa}{mg:Str->Option Qb}{base:Heap}
abbrev nNm:List Str:=["_law_box_here","_law_many","_law_letters","_law_size","_law_stem","_law_first","_law_step_here","_law_at","_law_found","_law_k","_law_one","_law_other"]
abbrev ZhD:List Str:=["_law_box_here","_law_many"]
theorem scNm:Zo nNm ZhD (Zj s_l_names):=⟨rfl,rfl,rfl,by decide +kernel,rfl,by decide +kernel,by decide +kernel⟩
theorem Ziq {f:Addr}{fd:Qi}(F:Fun K "_law_names" "_law_names" s_l_names f fd)(T:ZX mg)(DT:DTk P w K mg base 1):FnOk P w K mg base ZH 2 f fd ZhD ZcT:=by
 refine F.ok scNm (fun vs H Q E h=>?_) (fun cdv A outer s H vs Q E hr h=>?_)
 ·obtain ⟨p,n,many,Δ,rfl,_⟩:=h;rfl
 obtain ⟨p,n,many,Δ,rfl,S,hn,h0,h1,q⟩:=h
 have J:=hr
 refine' ⟨?t,?h,?r⟩
 case h =>
  conv=>arg 2;whnf
  with_reducible refine' (Zd ?h1 (Zd ?h2 (Zd ?h3 (Zd ?h4 (Zd (Wy ?h5 ?h6 ?h7 ?h8 (Zd ?h9 (Zf ?h10)) ?h11) (Zf ?h12))))))
  case h1=>exact WF (Yw (Zb ZK (Zb (Zs Yq Ze (ZD DT J (Zb (pv 0) (Zb Ze Za)))) Za))) (WZ rfl (Yt (Ya (i:=2) scNm.nd rfl (Tr rfl)) (Yt (Ya (i:=3) scNm.nd rfl (Qy rfl)) Wh)))
  case h2=>exact Zt (i:=4) scNm.nd rfl (Qy rfl) (Yz Jc SJ SK ZeR ZK (Zb (UD (CompOk.of nNm s_l_names rfl rfl (by decide +kernel)) rfl (YS rfl T.range (Zb (Zs Ys (pv 3) Ze) Za))  (fun _ _ _ _ _=>Zr WD (pv 2) (ZD DT J (Zb (pv 0) (Zb Ze Za))) (fun _ _=>rfl))) Za))
  case h3=>exact Zks (i:=5) (j:=6) (k:=7) rfl scNm.nd rfl rfl rfl (by decide) (by decide) (by decide) rfl rfl rfl (Zb (ZD DT J (Zb (pv 0) (Zb Ze Za))) (Zb (Zr Zx (Yg (Zb Ze (Zb Ze (Zb Ze (Zb Ze Za))))) (ZD DT J (Zb (pv 0) (Zb Ze Za))) (fun _ _=>rfl)) (Zb (ZD DT J (Zb (pv 0) (Zb (Zs Ys (pv 3) Ze) Za))) Za))) rfl
  case h4=>exact Zt (i:=8) scNm.nd rfl (Qy rfl) (Yg Za)
  case h5=>exact Gb
  case h6=>exact rfl
  case h7=>exact YS rfl T.range (Zb (pv 1) Za)
  case h8=>exact Ya (i:=9) scNm.nd rfl (Qy rfl)
  case h9=>exact WF (Zv ZdZ rfl T.divmod (by decide +kernel) (Zb (Zs XA (Zs Yq (pv 5) (Zs WC (pv 6) (pv 9))) Ze) (Zb Ze Za))) (WZ rfl (Yt (Ya (i:=10) scNm.nd rfl (Qy rfl)) (Yt (Ya (i:=11) scNm.nd rfl (Qy rfl)) Wh)))
  case h10=>exact ZA (Yz Qx QC QD Yl (pv 8) (Zb (Zs Wc (Zs Wc (Zs Wc (Wm Zdc (pv 4) XM (Wq (pv 7))) (Zr WD (pv 2) (pv 10) (fun _ _=>rfl))) (Zr WD (pv 2) (pv 11) (fun _ _=>rfl))) (Wm Zdc (pv 4) (Wq (pv 7)) XM)) Za))
  case h11=>exact fun _=>rfl
  case h12=>exact Zl (pv 8)
 try dsimp only [ZN,Cx.nox]
 refine zs6 ?_
 intro zD zS zN5 zN4 zN3 zN2 zN1
 refine ⟨_,rfl,p,_,7,_,rfl,S,by omega,by decide,by decide,fun r1 H1 a0 a1 S1=>⟨_,_,rfl,rfl,(by show 2<=Qh;decide),fun t ht=>⟨t,_,rfl,SqT.of Zh,rfl,_,_,rfl,_,_,rfl,rfl,?_⟩⟩⟩
 generalize W:upd H1 t _=H2
 have S2:=(S1.newE ht W).tail
 clear W
 refine ⟨rfl,_,rfl,_,_,rfl,rfl,_,rfl,by omega,by omega,fun D hD=>?_⟩
 have e1:(2+r1 - 2).toNat=r1.toNat:=by omega
 rw [e1]
 refine Wt (Yy (show r1.toNat<=1000 by omega)) S2 hD (fun i ys Δ'=>∃ zs:List Str,ys=zs.map V.str/\(∀ z∈zs,∃ c,z=⟨#[c]⟩/\UL c=true)/\Δ'=(p,Bx (n+1+i))::Δ) ⟨[],rfl,(fun _ h=>nomatch h),rfl⟩ ?_ ?_
 ·rintro i ys Δ' H' hi hl ⟨zs,rfl,hz,rfl⟩ S'
  refine ⟨_,rfl,_,rfl,p,_,26,_,rfl,S'.pull p,by omega,by decide,by decide,fun r3 H3 b0 b1 S3=>?_⟩
  obtain ⟨c,hc,hcl⟩:=We (x:=a26) UE b0 (by rw [Xb];exact b1)
  refine ⟨a26,r3,c,rfl,rfl,by rw [Xb];decide,hc,_,⟨zs++[⟨#[c]⟩],by rw [map_append];rfl,?_,rfl⟩,S3.pull D⟩
  intro z hz'
  rcases mem_append.mp hz' with h | h
  ·exact hz z h
  ·rw [mem_singleton.mp h];exact ⟨c,rfl,hcl⟩
 rintro ys Δ' H3 ⟨zs,rfl,hz,rfl⟩ hl S3
 rw [length_map] at hl
 obtain ⟨g1,g2,g3⟩:=Zhk hz
 refine ⟨_,D,zs,rfl,rfl,SqL.of (S3.get D),by omega,?_⟩
 have S4:=S3.tail
 generalize Txt.join (QI "") zs=B at *
 refine ⟨_,rfl,p,_,676,_,rfl,S4,by omega,by decide,by decide,fun r5 H5 b0 b1 S5=>⟨(by show 4<=Qh;decide),fun l hl4=>?_⟩⟩
 generalize W:upd H5 l _=H6
 have S6:=S5.newE hl4 W
 clear W
 refine ⟨_,rfl,p,_,4,_,rfl,S6.pull p,by omega,by decide,by decide,fun r7 H7 c0 c1 S7=>?_⟩
 obtain ⟨sv,hsm,hsv⟩:=ZeQ (xs:=[.int 1,.int 27,.int 5,.int 251]) c0 c1
 obtain ⟨G,rfl,hst⟩:∃ z:Int,sv=.int z/\1<=z/\z<=251:=by
  simp only [mem_cons,not_mem_nil,or_false] at hsm
  rcases hsm with rfl | rfl | rfl | rfl<;>exact ⟨_,rfl,by decide,by decide⟩
 refine ⟨l,_,_,_,rfl,rfl,SqL.of (S7.get l),hsv,?_⟩
 have S8:=S7.drop l
 refine ⟨_,rfl,_,rfl,_,_,rfl,rfl,p,_,_,_,rfl,S8,by omega,by omega,by omega,fun I H9 d0 d1 S10=>⟨_,_,_,rfl,?_⟩⟩
 refine ⟨(by show 0<=Qh;decide),fun fl hfl=>?_⟩
 generalize W:upd H9 fl _=H11
 have S11:=S10.newE hfl W
 clear W
 refine ⟨_,rfl,many,rfl,by omega,by omega,?_⟩
 refine Uq (fun i σ H'=>∃ x9 x10 x11 xs,σ=[some (.ref p),some (.int many),some (.str a26),some (.int (2+r1)),some (.str B),some (.int r5),some (.int G),some (.int I),some (.ref fl),x9,x10,x11]/\Sep ((fl,Ye (xs.map V.str))::(p,Bx (n+20))::Δ) H'/\xs.length=i/\(∀ x∈xs,XU x/\2<=x.length)/\∀ j:Nat,j < i->xs[j]?=some (nmZ B I ((r5+G * (0+(j:Int))) % 676)))
  ⟨_,_,_,[],rfl,(S11.pull p).le (by omega) |>.pull fl,rfl,(fun _ h=>nomatch h),fun j h=>absurd h (by omega)⟩ ?_ ?_
 ·rintro i σ H' hi ⟨x9,x10,x11,xs,rfl,S',hxl,hxs,hxj⟩
  have hb:0<=G * (0+(i:Int)):=Int.mul_nonneg (by omega) (by omega)
  refine ⟨_,rfl,_,rfl,_,rfl,_,_,rfl,rfl,.inl ⟨by omega,by omega⟩,_,_,rfl,rfl,_,_,rfl,rfl,(by show (0:Int) < 676;decide),?_⟩
  obtain ⟨z,hz⟩:∃ z:Int,(r5+G * (0+(i:Int))) % 676=z:=⟨_,rfl⟩
  have hz0:0<=z:=by rw [<- hz];exact Gw _ (by decide)
  have hz1:z < 676:=by rw [<- hz];exact Gp _ (by decide)
  refine ⟨z,26,congrArg (fun y=>[V.int y,V.int 26]) hz,⟨by decide,by decide⟩,fun t2 ht2=>⟨t2,_,rfl,SqT.of Zh,rfl,_,_,rfl,_,_,rfl,rfl,?_⟩⟩
  generalize W:upd H' t2 _=H12
  have S12:=(S'.newE ht2 W).tail
  clear W
  obtain ⟨Y,hc1,hcl1⟩:=We (x:=a26) UE (r:=z / 26) (by omega) (by rw [Xb];omega)
  obtain ⟨Z,hc2,hcl2⟩:=We (x:=a26) UE (r:=z % 26) (by omega) (by rw [Xb];omega)
  have ec1:Y=97+(z / 26).toNat:=Qv (hc1.symm.trans (Zgj (by omega) (by omega)))
  have ec2:Z=97+(z % 26).toNat:=Qv (hc2.symm.trans (Zgj (by omega) (by omega)))
  have enm:Txt.slice B none (some I)++(⟨#[Y]⟩:Str)++(⟨#[Z]⟩:Str)++Txt.slice B (some I) none=nmZ B I z:=by rw [ec1,ec2];rfl
  have hsl:=Zge (x:=B) d0 (by omega)
  refine ⟨_,rfl,.inl ⟨rfl,_,SqL.of (S12.get fl)⟩,_,rfl,_,rfl,I,rfl,B,rfl,Yy (show B.length<=1000 by omega),_,rfl,_,rfl,a26,_,Y,rfl,rfl,by rw [Xb];decide,hc1,_,_,rfl,rfl,Yy (show _<=1000 by rw [YM];omega),?_⟩
  refine ⟨_,rfl,_,rfl,a26,_,Z,rfl,rfl,by rw [Xb];decide,hc2,_,_,rfl,rfl,Yy (show _<=1000 by rw [Xs,YM,YM];omega),_,rfl,_,rfl,I,rfl,B,rfl,Yy (show B.length<=1000 by omega),_,_,rfl,rfl,Yy (show _<=1000 by rw [Xs,Xs,YM,YM];omega),?_⟩
  refine ⟨fl,_,_,rfl,rfl,S12.get fl,YZ (show _<=1000 by rw [length_map];omega),?_⟩
  have S13:=S12.put fl (.lst (xs.map V.str++[.str (Txt.slice B none (some I)++(⟨#[Y]⟩:Str)++(⟨#[Z]⟩:Str)++Txt.slice B (some I) none)]))
  refine ⟨_,_,_,xs++[Txt.slice B none (some I)++(⟨#[Y]⟩:Str)++(⟨#[Z]⟩:Str)++Txt.slice B (some I) none],rfl,by rw [map_append];exact S13,by simp [hxl],fun x hx=>?_,fun j hj=>?_⟩
  ·rcases mem_append.mp hx with h | h
   ·exact hxs x h
   ·rw [mem_singleton.mp h]
    refine ⟨⟨?_,?_,WP (WP (WP (UV g3) (UK hcl1)) (UK hcl2)) (UV g3)⟩,?_⟩<;>(rw [Xs,Xs,Xs,YM,YM];omega)
  ·rw [enm]
   by_cases hji:j < i
   ·rw [getElem?_append_left (by omega)];exact hxj j hji
   ·have:j=i:=by omega
    subst this
    rw [getElem?_append_right (by omega),hxl,Jb,hz];rfl
 ·rintro σ H' ⟨x9,x10,x11,xs,rfl,S',hxl,hxs,hxj⟩
  refine ⟨_,rfl,q fl H' xs S' hxl hxs fun h2=>?_⟩
  have g0:=hxj 0 (by omega)
  have g1':=hxj 1 (by omega)
  refine ⟨_,_,mem_of_getElem? g0,mem_of_getElem? g1',fun z=>?_⟩
  have:=Zkp z (Gw _ (by decide)) (Gp _ (by decide)) (Gw _ (by decide)) (Gp _ (by decide))
  have e0:G * (0+((0:Nat):Int))=0:=by simp
  have e1':G * (0+((1:Nat):Int))=G:=by simp
  rw [e0,e1'] at this
  omega
end
def ZeJ:Sp:=fun vs H Q _=>∃(p:Addr)(n:Nat)(many:Int)(Δ:Rs),vs=[.ref p,.int many]/\Sep ((p,Bx n)::Δ) H/\n<=800000/\1<=many/\many<=40 /\
 ∀ (l:Addr) (H':Hp) (xs:List Str),Sep ((l,Ye (xs.map V.str))::(p,Bx (n+100))::Δ) H'->1<=xs.length->(xs.length:Int)<=many->xs.Nodup->(∀ x∈xs,XU x)->(2<=many->2<=xs.length)->Q (.ref l) H'
theorem ZkH {G:Type}{l:List G}{u v:G}(B:u∈l)(z:v∈l)(h:u≠v):2<=l.length:=by
 match l,B,z with
 | [a],B,z=>exact absurd ((mem_singleton.mp B).trans (mem_singleton.mp z).symm) h
 | _::_::_,_,_=>simp only [length_cons];omega
section
variable {P:Qj}{w:Qr}{K:Qa}{mg:Str->Option Qb}{base:Heap}
abbrev nPo:List Str:=["_law_box_here","_law_many","_law_letters","_law_found","_law_name","_law_one","_law_other","_law_twin"]
abbrev Zit:List Str:=["_law_box_here","_law_many"]
theorem scPo:Zo nPo Zit (Zj s_l_pool):=⟨rfl,rfl,rfl,by decide +kernel,rfl,by decide +kernel,by decide +kernel⟩
theorem ZjX {f:Addr}{fd:Qi}(F:Fun K "_law_pool" "_law_pool" s_l_pool f fd)(T:ZX mg)(DT:DTk P w K mg base 1)(DN:Def P w K mg base 2 "_law_names" ZhD ZcT):FnOk P w K mg base ZH 3 f fd Zit ZeJ:=by
 refine F.ok scPo (fun vs H Q E h=>?_) (fun cdv A outer s H vs Q E hr h=>?_)
 ·obtain ⟨p,n,many,Δ,rfl,_⟩:=h;rfl
 obtain ⟨p,n,many,Δ,rfl,S,hn,h0,h1,q⟩:=h
 have hr1:=hr.mono (show 1<=2 by decide)
 refine' ⟨?t,?h,?r⟩
 case h =>
  conv=>arg 2;whnf
  with_reducible refine' (Zd ?h1 (Zd (Wy ?h2 ?h3 ?h4 ?h5 (Zd ?h6 (Zd ?h7 (Zf ?h8))) ?h9) (Zf ?h10)))
  case h1=>exact WF (Yw (Zb ZK (Zb (Yg Za) Za))) (WZ rfl (Yt (Ya (i:=2) scPo.nd rfl (Qy rfl)) (Yt (Ya (i:=3) scPo.nd rfl (Tr rfl)) Wh)))
  case h2=>exact Gb
  case h3=>exact rfl
  case h4=>exact Zbo (ZD DN hr (Zb (pv 0) (Zb (pv 1) Za)))
  case h5=>exact Ya (i:=4) scPo.nd rfl (Qy rfl)
  case h6=>exact Zav (i:=5) (j:=6) rfl scPo.nd rfl rfl (by decide) rfl rfl (Zb (Zs Yq (Yz Jc Sq Sr ZdJ (pv 2) (Zb (Zr WD (pv 4) Ze (fun _ _=>rfl)) Za)) Ze) (Zb (Zs Ys (Yz Jc Sq Sr ZdJ (pv 2) (Zb (Zr WD (pv 4) Ze (fun _ _=>rfl)) Za)) Ze) Za)) rfl
  case h7=>exact Zt (i:=7) scPo.nd rfl (Qy rfl) (Zs Wc (Zs Wc (Zr WD (pv 2) (Zs XA (pv 5) Ze) (fun _ _=>rfl)) (Zr WD (pv 2) (pv 6) (fun _ _=>rfl))) (Wm Zdc (pv 4) (Wq Ze) XM))
  case h8=>exact ZA (Yz Qx Tv Tw ZbM (pv 3) (Zb (Zs Zas (Yg (Zb (pv 4) Za)) (Zs ZgU (Yg (Zb (pv 7) Za)) (YB VC rfl T.int (by decide +kernel) (Zb (Uy (Xa VM (pv 5) Ze (ZB _)) (Uy (Xa ZjA (pv 6) Ze (ZB _)) (Zbc (Xa ZU (ZD DT hr1 (Zb (pv 0) (Zb Ze Za))) Ze (ZB _))))) Za)))) Za))
  case h9=>exact fun _=>rfl
  case h10=>exact Zl (Wm Zbl (ZgF (xa:="_law_place") (xb:="_law_name") (CompOkT.of nPo s_l_pool rfl rfl (by decide +kernel)) rfl (Zhq rfl T.enumerate (pv 3)) (fun _ _ _ _ _=>Zek (K:=K) rfl rfl (Ya (i:=8) (show (ZfK nPo "_law_place" "_law_name"++(["_law_place","_law_name"]:List Str)).Nodup by decide +kernel) rfl (Qy rfl) (Tr rfl)) (Ya (i:=9) (show (ZfK nPo "_law_place" "_law_name"++(["_law_place","_law_name"]:List Str)).Nodup by decide +kernel) rfl (Qy rfl) (Tr rfl))) (fun _ _ _ _ _=>ZE (Zcc (K:=K) rfl) (pv 9) (Wm (ZhT (K:=K) rfl) (pv 3) XM (Wq (pv 8))) rfl) (fun _ _ _ _ _=>pv 9)) XM (Wq (pv 1)))
 try dsimp only [ZN,Cx.nox]
 refine zs3 ?_
 intro zD zS zN2 zN1
 refine ⟨(by show 0<=Qh;decide),fun I hfl=>⟨(by show 2<=Qh;decide),fun t ht=>⟨t,_,rfl,SqT.of Zh,rfl,_,_,rfl,_,_,rfl,rfl,?_⟩⟩⟩
 generalize G:upd (upd H I _) t _=H1
 have S1:=((S.new hfl _).newE ht G).tail
 clear G
 refine ⟨_,rfl,_,rfl,p,_,many,_,rfl,S1.pull p,by omega,by omega,by omega,fun l H2 xs S2 hxl hxs hx2=>?_⟩
 refine ⟨l,rfl,⟨_,SqL.of (S2.get l)⟩,Zdv (xs:=xs.map V.str) (fun j σ H'=>∃ x4 x5 x6 x7 fs,σ=[some (.ref p),some (.int many),some (.str a26),some (.ref I),x4,x5,x6,x7]/\Sep ((I,Ye (fs.map V.str))::(l,Ye (xs.map V.str))::(p,Bx (n+20+j))::Δ) H'/\fs.length<=2 * j/\(∀ y∈fs,XU y)/\(∀ y∈xs.take j,y∈fs)/\j<=xs.length)
  ⟨_,_,_,_,[],rfl,(S2.pull l).pull I,Qg _,(fun _ h=>nomatch h),(fun y h=>by simp at h),QF _⟩ ?_ ?_ ?_⟩
 ·rintro j σ H' _ ⟨_,_,_,_,fs,_,S',_⟩;exact SqL.of (S'.get l)
 ·rintro j x σ H3 J ⟨x4,x5,x6,x7,fs,rfl,S3,hfl2,hfs,hne,hj⟩
  have hjl:j < xs.length:=by have:=(Qn.mp J).1;rwa [length_map] at this
  obtain ⟨nm,hnm,rfl⟩:=mem_map.mp (mem_of_getElem? J)
  obtain ⟨⟨hn1,hn8,hnl⟩,hn2⟩:=hxs nm hnm
  obtain ⟨c0,hc0,hl0⟩:=We (x:=nm) hnl (r:=0) (by decide) (by omega)
  obtain ⟨c1,hc1,hl1⟩:=We (x:=nm) hnl (r:=1) (by decide) (by omega)
  obtain ⟨f0,f01,f02⟩:=Zgu hl0
  obtain ⟨f1,f11,f12⟩:=Zgu hl1
  obtain ⟨one,hone⟩:∃ z:Int,(c0:Int) - 97+2=z:=⟨_,rfl⟩
  obtain ⟨oth,hoth⟩:∃ z:Int,(c1:Int) - 97 - 1=z:=⟨_,rfl⟩
  refine ⟨_,rfl,rfl,_,rfl,nm,0,c0,rfl,rfl,Yy (show nm.length<=1000 by omega),hc0,a26,_,rfl,rfl,by omega,_,_,rfl,rfl,_,rfl,rfl,_,rfl,nm,1,c1,rfl,rfl,Yy (show nm.length<=1000 by omega),hc1,a26,_,rfl,rfl,by omega,_,_,rfl,rfl,.int one,.int oth,(by show [V.int (Txt.find a26 ⟨#[c0]⟩+2),V.int (Txt.find a26 ⟨#[c1]⟩ - 1)]=_;rw [f0,f1,hone,hoth]),?_⟩
  obtain ⟨d0,hd0,hdl0⟩:=We (x:=a26) UE (r:=one % 26) (by omega) (by rw [Xb];omega)
  obtain ⟨d1,hd1,hdl1⟩:=Zic (x:=a26) UE (r:=oth) (by rw [Xb];omega) (by rw [Xb];omega)
  have hsl:(Txt.slice nm (some 2) none).length+2=nm.length:=by
   rw [Ym,Wu,Ym]
   have e3:HT.sIx nm.cps.toList.length 0 (some 2)=min 2 nm.cps.toList.length:=HT.sIx_nat _ _ 2
   have hh:2<=nm.cps.toList.length:=by rw [<- Ym];exact hn2
   rw [e3,HT.sIx_none,length_take,JX]
   omega
  refine ⟨_,rfl,_,rfl,_,_,rfl,rfl,(by show (0:Int) < 26;decide),a26,_,d0,rfl,rfl,by rw [Xb];decide,hd0,_,rfl,_,rfl,a26,oth,d1,rfl,rfl,by rw [Xb];decide,hd1,_,_,rfl,rfl,Yy (show _<=1000 by rw [YM,YM];decide),_,rfl,2,rfl,nm,rfl,Yy (show nm.length<=1000 by omega),_,_,rfl,rfl,Yy (show _<=1000 by rw [Xs,YM,YM];omega),?_⟩
  generalize htw:(⟨#[d0]⟩:Str)++(⟨#[d1]⟩:Str)++Txt.slice nm (some 2) none=tw
  have htk:XU tw:=by
   rw [<- htw]
   refine ⟨?_,?_,WP (WP (UK hdl0) (UK hdl1)) (UV hnl)⟩<;>(rw [Xs,Xs,YM,YM];omega)
  refine ⟨_,rfl,.inl ⟨rfl,_,SqL.of (S3.get I)⟩,_,rfl,(by show 1<=Qh;decide),fun l1 hl1'=>⟨_,rfl,(by show 1<=Qh;decide),fun l2 hl2=>?_⟩⟩
  generalize G:upd (upd H3 l1 _) l2 _=H4
  have S4:=(S3.new hl1' _).newE hl2 G
  clear G
  refine ⟨_,rfl,_,_,rfl,rfl,_,rfl,Wj (fun c=>?w1) (fun c=>?w2)⟩
  case' w1=>refine ⟨_,rfl,_,_,rfl,rfl,_,rfl,Wj (fun c=>?w3) (fun c=>?w4)⟩
  case' w3 =>
   refine ⟨_,rfl,p,_,2,_,rfl,S4.pull p,by omega,by decide,by decide,fun r5 H5 b0 b1 W=>⟨rfl,?_⟩⟩
   obtain ⟨b,hb⟩:∃ b:Bool,decide (V.int r5=V.int 0)=b:=⟨_,rfl⟩
  case' w4 =>
   have W:=(S4.pull p).le (show n+20+j<=n+20+j+1 by omega)
   obtain ⟨b,hb⟩:∃ b:Bool,false=b:=⟨_,rfl⟩
  case' w2 =>
   have W:=(S4.pull p).le (show n+20+j<=n+20+j+1 by omega)
   obtain ⟨b,hb⟩:∃ b:Bool,false=b:=⟨_,rfl⟩
  all_goals
   refine .inr ⟨b,congrArg (fun z=>[V.bl z]) hb,?_⟩
   obtain ⟨k0,k1,k2⟩:=Zid b tw
   refine ⟨l2,_,_,rfl,rfl,W.get l2,by omega,by omega,Yy (show _<=1000 by show 1 * _<=1000;omega),fun l3 hl3=>?_⟩
   generalize G:upd _ l3 _=H6
   have Z:=W.newE hl3 G
   clear G
   rw [k2] at Z
   have lb:(if b=true then [tw] else []).length<=1:=by cases b<;>simp
   refine ⟨l1,l3,_,_,rfl,rfl,Z.get l1,Z.get l3,Yy (show [V.str nm].length+((if b=true then [tw] else []).map V.str).length<=1000 by rw [length_map];show 1+_<=1000;omega),fun l4 hl4=>?_⟩
   generalize G:upd _ l4 _=H7
   have S7:=Z.newE hl4 G
   clear G
   refine ⟨I,l4,fs.map V.str,[V.str nm]++(if b=true then [tw] else []).map V.str,rfl,rfl,S7.get I,S7.get l4,Yy (show _<=1000 by rw [length_append,length_map,length_map];show _+(1+_)<=1000;omega),?_⟩
   have S8:=S7.put I (.lst (fs.map V.str++([.str nm]++(if b=true then [tw] else []).map V.str)))
   have e8:fs.map V.str++([.str nm]++(if b=true then [tw] else []).map V.str)=(fs++(nm::if b=true then [tw] else [])).map V.str:=by rw [map_append];rfl
   refine ⟨_,_,_,_,fs++(nm::if b=true then [tw] else []),rfl,?_,?_,fun y B=>?_,fun y B=>?_,hjl⟩
   ·rw [<- e8];exact ((((S8.drop l4).drop l3).drop l2).drop l1).pull p |>.pull l |>.pull I
   ·rw [length_append,length_cons];omega
   ·rcases mem_append.mp B with z | z
    ·exact hfs y z
    ·rcases mem_cons.mp z with z | z
     ·rw [z];exact ⟨hn1,hn8,hnl⟩
     ·cases b
      ·cases z
      ·rw [mem_singleton.mp z];exact htk
   ·rw [List.take_succ] at B
    have hxj:xs[j]?=some nm:=by
     rw [getElem?_map] at J
     cases e:xs[j]? with
     | none=>rw [e] at J;cases J
     | some w=>rw [e] at J;cases J;rfl
    rw [hxj] at B
    rcases mem_append.mp B with z | z
    ·exact Jl _ (hne y z)
    ·rw [show y=nm from by simpa using z];exact mem_append_right _ mem_cons_self
 ·rintro σ H3 ⟨x4,x5,x6,x7,fs,rfl,S3,hfl2,hfs,hne,hj⟩
  rw [length_map] at S3 hfl2 hne
  have S4:=S3.drop l
  refine ⟨_,rfl,I,_,rfl,S4.get I,fun D hD=>?_⟩
  refine Zdg (K:=K) (a:=I) (xs:=fs.map V.str) (Yy (show _<=1000 by rw [length_map];omega)) S4 hD (fun i ys Δ'=>ys=(YA fs i).map V.str/\Δ'=(I,Ye (fs.map V.str))::(p,Bx (n+20+xs.length))::Δ) ⟨rfl,rfl⟩ ?_ ?_ ?_
  ·rintro i ys Δ' H' ⟨_,rfl⟩ S';exact SqL.of (S'.get I)
  ·rintro i x t' ys Δ' H' wa wb J hyl ⟨rfl,rfl⟩ S'
   obtain ⟨y,B,rfl⟩:∃ y,fs[i]?=some y/\V.str y=x:=by
    rw [getElem?_map] at J
    cases e:fs[i]? with
    | none=>rw [e] at J;cases J
    | some y=>rw [e] at J;exact ⟨y,rfl,Qv J⟩
   refine ⟨t',_,rfl,SqT.of (S'.get t'),rfl,_,_,rfl,_,_,rfl,rfl,⟨_,_,rfl⟩,?_⟩
   refine ⟨_,rfl,_,rfl,_,rfl,_,rfl,I,_,rfl,SqL.of (S'.get I),fun sl hsl=>?_⟩
   generalize G:upd _ sl _=H5
   have W:=S'.newE hsl G
   clear G
   rw [ZcW,<- List.map_take] at W
   refine ⟨sl,_,rfl,.inl (SqL.of (W.get sl)),rfl,ZgN _,_,rfl,?_⟩
   rw [Zkh]
   have Z:=(W.drop sl).drop t'
   have ef:YA fs (i+1)=if y∈fs.take i then YA fs i else YA fs i++[y]:=by
    show (match fs[i]? with | some x=>if x∈fs.take i then YA fs i else YA fs i++[x] | none=>YA fs i)=_
    rw [B]
   by_cases hm:y∈fs.take i
   ·rw [decide_eq_true hm]
    rw [if_pos hm] at ef
    exact Yh ⟨_,⟨by rw [ef],rfl⟩,Z⟩
   ·rw [decide_eq_false hm]
    rw [if_neg hm] at ef
    exact Yo ⟨_,rfl,_,⟨by rw [ef,map_append];rfl,rfl⟩,Z⟩
  ·rintro ys Δ' H5 ⟨rfl,rfl⟩ hyl W
   rw [length_map] at W hyl
   refine ⟨_,rfl,many,rfl,D,_,rfl,SqL.of (W.get D),fun r hr'=>?_⟩
   generalize G:upd _ r _=H6
   have Z:=((W.newE hr' G).drop D).drop I
   clear G
   rw [show many=((many.toNat:Nat):Int) by omega,ZcW,<- List.map_take] at Z
   have hin:∀ y∈xs,y∈fs:=fun y B=>hne y (by rw [take_of_length_le (Qg _)];exact B)
   have hfne:fs≠[]:=fun z=>by
    obtain ⟨y,B⟩:=Tb xs (length_pos_iff.mp (by omega))
    have:=hin y B
    rw [z] at this;cases this
   have Y:fs.take fs.length=fs:=take_of_length_le (Qg _)
   have hf1:YA fs fs.length≠[]:=fun z=>by
    obtain ⟨y,B⟩:=Tb _ hfne
    have:=(Xd (xs:=fs) fs.length (x:=y)).mpr (by rw [Y];exact B)
    rw [z] at this;cases this
   refine q r H6 _ ((Z.pull p).le (by omega) |>.pull r) ?_ ?_ (List.Sublist.nodup (Oe _ _) (Ul _)) (fun y B=>hfs y ?_) fun h2=>?_
   ·rw [length_take];have:=length_pos_iff.mpr hf1;omega
   ·rw [length_take];omega
   ·have:=(Xd fs.length).mp (ZdW B)
    rw [Y] at this;exact this
   ·obtain ⟨u,v,hu,hv,huv⟩:=hx2 h2
    have m:∀ y∈xs,y∈YA fs fs.length:=fun y B=>(Xd (xs:=fs) fs.length (x:=y)).mpr (by rw [Y];exact hin y B)
    have:=ZkH (m u hu) (m v hv) huv
    rw [length_take];omega
end
section
variable {P:Qj}{w:Qr}{K:Qa}{mg:Str->Option Qb}{base:Heap}
abbrev nVs:List Str:=["_law_box_here"]
abbrev Zin:List Str:=["_law_box_here"]
theorem scVs:Zo nVs Zin (Zj s_l_values):=⟨rfl,rfl,rfl,by decide +kernel,rfl,by decide +kernel,by decide +kernel⟩
theorem ZgY {f:Addr}{fd:Qi}(F:Fun K "_law_values" "_law_values" s_l_values f fd)(T:ZX mg)(DV:Def P w K mg base 2 "_law_value" ["_law_box_here"] Zaq):FnOk P w K mg base ZH 3 f fd Zin ZcZ:=by
 refine F.ok scVs (fun vs H Q E h=>?_) (fun cdv A outer s H vs Q E hr h=>?_)
 ·obtain ⟨p,n,Δ,rfl,_⟩:=h;rfl
 obtain ⟨p,n,Δ,rfl,S,hn,q⟩:=h
 refine' ⟨?t,?h,?r⟩
 case h =>
  conv=>arg 2;whnf
  with_reducible refine' (Zf ?h1)
  case h1=>exact Zl (Zs Zas (UD (CompOk.of nVs s_l_values rfl rfl (by decide +kernel)) rfl (YS rfl T.range (Zb Ze Za))  (fun _ _ _ _ _=>ZD DV hr (Zb (pv 0) Za))) (Yg (Zb Ze (Zb ZK Za))))
 try dsimp only [ZN,Cx.nox]
 refine ⟨3,rfl,by decide,by decide,fun D hD=>?_⟩
 refine Wt (by decide) S hD (fun i ys B=>(∀ u∈ys,YW u)/\B=(p,Bx (n+50 * i))::Δ) ⟨(fun _ h=>nomatch h),rfl⟩ ?_ ?_
 ·rintro i ys B H' hi hl ⟨W,rfl⟩ S'
  have hi3:i < 3:=hi
  refine ⟨_,rfl,p,_,_,rfl,S'.pull p,by omega,fun v H2 hv S2=>⟨_,⟨fun u J=>?_,rfl⟩,(S2.le (by omega)).pull D⟩⟩
  rcases mem_append.mp J with z | z
  ·exact W u z
  ·rw [mem_singleton.mp z];exact hv
 ·rintro ys B H2 ⟨W,rfl⟩ hl S2
  refine ⟨(by show 2<=Qh;decide),fun l1 I=>?_⟩
  generalize G:upd _ l1 _=H3
  have Z:=S2.newE I G
  clear G
  have hl3:ys.length=3:=hl
  refine ⟨D,l1,_,_,rfl,rfl,Z.get D,Z.get l1,Yy (show ys.length+2<=1000 by omega),fun l2 Y=>?_⟩
  generalize G:upd _ l2 _=H4
  have S4:=Z.newE Y G
  clear G
  refine q l2 H4 _ ((((S4.drop l1).drop D).pull p).le (show n+50 * 3<=n+200 by omega) |>.pull l2) (by rw [length_append];show _+2=5;omega) fun u J=>?_
  rcases mem_append.mp J with z | z
  ·exact W u z
  ·have all:([.int 1,.str "1"]:List V).all ZaU=true:=by decide +kernel
   exact UU (all_eq_true.mp all u z)
abbrev nSp:List Str:=["_law_box_here","_law_names_here","_law_values_here","_law_name"]
abbrev ZiR:List Str:=["_law_box_here","_law_names_here","_law_values_here"]
theorem scSp:Zo nSp ZiR (Zj s_l_step):=⟨rfl,rfl,rfl,by decide +kernel,rfl,by decide +kernel,by decide +kernel⟩
theorem Zkm {f:Addr}{fd:Qi}(F:Fun K "_law_step" "_law_step" s_l_step f fd)(T:ZX mg)(Y:DTk P w K mg base 1):FnOk P w K mg base ZH 2 f fd ZiR Zgh:=by
 refine F.ok scSp (fun vs H Q E h=>?_) (fun cdv A outer s H vs Q E hr h=>?_)
 ·obtain ⟨p,G,B,n,NS,us,Δ,rfl,_⟩:=h;rfl
 obtain ⟨p,G,B,n,NS,us,Δ,rfl,S,hNS,J,hNl,hul,huv,hn,q⟩:=h
 have z:=hr
 have l1:=length_pos_iff.mpr hNS
 have l2:=length_pos_iff.mpr J
 refine' ⟨?t,?h,?r⟩
 case h =>
  conv=>arg 2;whnf
  with_reducible refine' (Zd ?h1 (Zd (ZL ?h2 (Zf ?h3) ZV) (Zf ?h4)))
  case h1=>exact Zt (i:=3) scSp.nd rfl (Qy rfl) (Zr Zx (pv 1) (ZD Y z (Zb (pv 0) (Zb (Zv Zy rfl T.len QB (Zb (pv 1) Za)) Za))) (fun _ _=>rfl))
  case h2=>exact ZE ZU (ZD Y z (Zb (pv 0) (Zb Ze Za))) Ze (ZB _)
  case h3=>exact Zl (Yw (Zb ZK (Zb (pv 3) Za)))
  case h4=>exact Zl (Yw (Zb ZK (Zb (pv 3) (Zb (Zr Zx (pv 2) (ZD Y z (Zb (pv 0) (Zb (Zv Zy rfl T.len QB (Zb (pv 2) Za)) Za))) (fun _ _=>rfl)) Za))))
 try dsimp only [ZN,Cx.nox]
 refine zs3 ?_
 intro zD zS zN2 zN1
 refine ⟨_,rfl,_,rfl,_,rfl,G,_,rfl,.inl (SqL.of (S.get G)),p,_,_,_,rfl,S,by omega,(by rw [length_map];omega),(by rw [length_map];omega),fun r1 H1 a0 a1 S1=>?_⟩
 rw [length_map] at a1
 obtain ⟨x,hx,W⟩:=ZgQ (f:=V.str) a0 a1
 refine ⟨G,_,_,_,rfl,rfl,SqL.of (S1.get G),W,?_⟩
 refine ⟨_,rfl,p,_,4,_,rfl,S1,by omega,by decide,by decide,fun r2 H2 b0 b1 S2=>⟨rfl,_,rfl,Wj (fun c=>?_) (fun c=>?_)⟩⟩
 ·refine ⟨_,rfl,(by show 2<=Qh;decide),fun t Z=>?_⟩
  exact q t _ (.clr x) hx ((S2.new Z (.tup [.str "clear",.str x])).pull p |>.le (show n+2<=n+3 by omega) |>.pull t)
 ·refine ⟨_,rfl,_,rfl,_,rfl,_,rfl,B,_,rfl,.inl (SqL.of (S2.get B)),p,_,_,_,rfl,S2,by omega,by omega,by omega,fun r3 H3 d0 d1 S3=>?_⟩
  obtain ⟨u,hu,I⟩:=ZeQ (xs:=us) d0 d1
  refine ⟨B,_,_,_,rfl,rfl,SqL.of (S3.get B),I,(by show 3<=Qh;decide),fun t Z=>?_⟩
  exact q t _ (.set x u) ⟨hx,huv u hu⟩ (S3.new Z (.tup [.str "set",.str x,u]))
abbrev nFr:List Str:=["_law_box_here","_law_stops","_law_way"]
abbrev Zis:List Str:=["_law_box_here","_law_stops"]
theorem scFr:Zo nFr Zis (Zj s_l_from):=⟨rfl,rfl,rfl,by decide +kernel,rfl,by decide +kernel,by decide +kernel⟩
theorem ZjL {f:Addr}{fd:Qi}(F:Fun K "_law_from" "_law_from" s_l_from f fd)(T:ZX mg)(W:DTk P w K mg base 1):FnOk P w K mg base ZH 2 f fd Zis Zhf:=by
 refine F.ok scFr (fun vs H Q E h=>?_) (fun cdv A outer s H vs Q E hr h=>?_)
 ·obtain ⟨p,B,n,k,R,Δ,rfl,_⟩:=h;rfl
 obtain ⟨p,B,n,k,R,Δ,rfl,S,Y,hk1,hk2,hn,q⟩:=h
 have G:=hr
 refine' ⟨?t,?h,?r⟩
 case h =>
  conv=>arg 2;whnf
  with_reducible refine' (Zd ?h1 (Zd (ZL ?h2 (Zf ?h3) ZV) (Zd (ZL ?h4 (Zf ?h5) ZV) (Zf ?h6))))
  case h1=>exact Zt (i:=2) scFr.nd rfl (Qy rfl) (ZD W G (Zb (pv 0) (Zb Ze Za)))
  case h2=>exact ZE VM (pv 2) Ze (ZB _)
  case h3=>exact Zl (Zs Ys (Zv Zy rfl T.len QB (Zb (pv 1) Za)) Ze)
  case h4=>exact ZE ZU (pv 2) Ze (ZB _)
  case h5=>exact Zl (Zv (Zhg rfl) rfl T.max (by decide +kernel) (Zb Ze (Zb (Zs Ys (Zs Ys (Zv Zy rfl T.len QB (Zb (pv 1) Za)) Ze) (ZD W G (Zb (pv 0) (Zb Ze Za)))) Za)))
  case h6=>exact Zl (ZD W G (Zb (pv 0) (Zb (Zv Zy rfl T.len QB (Zb (pv 1) Za)) Za)))
 try dsimp only [ZN,Cx.nox]
 refine zs4 ?_
 intro zD zS zN3 zN2 zN1
 refine ⟨_,rfl,p,_,4,_,rfl,S,by omega,by decide,by decide,fun r1 H1 a0 a1 I=>⟨_,rfl,_,_,rfl,rfl,_,rfl,Wj (fun c=>?_) (fun c=>?_)⟩⟩
 ·obtain ⟨xs,ex,Z⟩:=I.isl B Y
  refine ⟨_,rfl,B,_,rfl,.inl (SqL.of ex),_,_,rfl,rfl,?_⟩
  have:=q (k - 1) H1 (by omega) (I.le (by omega))
  rw [show ((k - 1:Nat):Int)=((xs.length:Nat):Int) - 1 by omega] at this
  exact this
 refine ⟨_,rfl,rfl,_,rfl,Wj (fun c=>?_) (fun c=>?_)⟩
 ·obtain ⟨xs,ex,Z⟩:=I.isl B Y
  refine ⟨_,rfl,B,_,rfl,.inl (SqL.of ex),_,_,rfl,rfl,_,rfl,p,_,6,_,rfl,I,by omega,by decide,by decide,fun z H2 b0 b1 J=>⟨_,_,rfl,rfl,_,_,rfl,?_⟩⟩
  by_cases hc:(0:Int) < (xs.length:Int) - 1 - z
  ·rw [if_pos hc]
   have:=q ((xs.length:Int) - 1 - z).toNat H2 (by omega) (J.le (by omega))
   rw [show ((((xs.length:Int) - 1 - z).toNat:Nat):Int)=((xs.length:Nat):Int) - 1 - z by omega] at this
   exact this
  ·rw [if_neg hc];exact q 0 H2 (by omega) (J.le (by omega))
 ·obtain ⟨xs,ex,Z⟩:=I.isl B Y
  refine ⟨_,rfl,_,rfl,B,_,rfl,.inl (SqL.of ex),p,_,_,_,rfl,I,by omega,by omega,by omega,fun z H2 b0 b1 J=>?_⟩
  have:=q z.toNat H2 (by omega) (J.le (by omega))
  rw [show ((z.toNat:Nat):Int)=z by omega] at this
  exact this
end
end K23
namespace L2
open PySem PySem.Spec PyProof.Rows
section
variable {X:Cx}
end
end L2
namespace L2
open PySem PySem.Spec PyProof.Rows PySem.F
section
variable {prog:Qj}{w:Qr}{A:QG}{E:Qb->Qd->Prop}{s:Qd}
end
section
variable {X:Cx}
end
end L2
namespace K23
open PySem L2
def mkB:Nat->Int
 | 0=>0
 | i+1=>mkB i+((i:Int)+1) * 26
theorem Zho {l:List Nat}:∀ i,i<=l.length->l.all UL=true->0<=Wk l i/\Wk l i<=mkB i
 | 0,_,_=>⟨Int.le_refl _,Int.le_refl _⟩
 | i+1,hi,ha=>by
  obtain ⟨I,h1⟩:=Zho i (by omega) ha
  have z:i < l.length:=hi
  have B:=all_eq_true.mp ha _ (Ge z)
  have G:l.getD i 0=l[i]:=by rw [getD_eq_getElem?_getD,getElem?_eq_getElem z];rfl
  unfold UL at B
  simp only [QM,decide_eq_true_eq] at B
  show 0<=Wk l i+((i:Int)+1) * (((l.getD i 0:Nat):Int) - 97+1)/\Wk l i+((i:Int)+1) * (((l.getD i 0:Nat):Int) - 97+1)<=mkB i+((i:Int)+1) * 26
  rw [G]
  have p0:(0:Int)<=((i:Int)+1) * (((l[i]:Nat):Int) - 97+1):=Int.mul_nonneg (by omega) (by omega)
  have p1:((i:Int)+1) * (((l[i]:Nat):Int) - 97+1)<=((i:Int)+1) * 26:=Int.mul_le_mul_of_nonneg_left (by omega) (by omega)
  omega
theorem ZmI {NS:List Str}(W:NS.length<=50)(h:∀ x∈NS,XU x):Yj NS:=by
 have b:∀ x∈NS,0<=Zz x/\Zz x < 1024:=fun x z=>by
  obtain ⟨h1,I,B⟩:=h x z
  obtain ⟨J,S⟩:=Zho (l:=x.cps.toList) x.length (by rw [<- Ym];exact Qg _) B
  have G:∀ i,i<=8->mkB i < 1024:=by decide
  have:=G x.length I
  exact ⟨J,by show Wk _ _ < _;omega⟩
 exact ⟨by omega,fun x z=>by have:=(h x z).2.1;omega,fun x z=>(b x z).1,fun x z=>(b x z).2⟩
theorem ZmF {NS:List Str}:RInv NS [] [.bare] [(QO 0,.bl true)]:=by
 refine ⟨fun k q e=>by simp at e,fun k F t e1 B=>?_⟩
 cases k with
 | zero =>
  cases (show some (fun _=>none)=some F from e1)
  cases (show some 0=some t from B)
  exact ⟨rfl,.inl (.inl ⟨rfl,rfl,fun _ _ _=>rfl⟩),fun x u z=>by cases z⟩
 | succ k=>simp [envs] at e1
theorem Zfl {NS:List Str}{pls:List ZP}{q:ZP}(h:UF NS pls)(G:q.st.ok NS):UF NS (pls++[q]):=fun z B=>by
 rcases mem_append.mp B with y | y
 ·exact h z y
 ·rw [mem_singleton.mp y];exact G
theorem ZcR {x:Str}(h:XU x):YW (.str x):=by
 refine ⟨by have:=h.2.1;omega,all_eq_true.mpr fun c z=>?_⟩
 have:=all_eq_true.mp h.2.2 c z
 unfold UL at this;unfold VQ
 simp only [QM,decide_eq_true_eq] at this ⊢
 omega
theorem ZgZ {a b:Addr}{R:Yv}[U:Up R]{o:HO}{Δ:Rs}{H:Hp}(S:Sep ((a,R)::Δ) H)(e:H b=some o)(m:Yx o=false):Sep ((a,fun a h=>R a h/\h b=some o)::Δ) H:=by
 obtain ⟨h,l,r,S⟩:=S
 refine ⟨fun c=>match h c with | some u=>some u | none=>one b o c,fun c u z=>?_,⟨U.up r (fun c u z=>by simp only [z]),?_⟩,S.mono fun c u z=>?_⟩
 ·cases q:h c with
  | some v=>simp only [q] at z;cases z;exact l _ _ q
  | none=>simp only [q] at z;obtain ⟨rfl,rfl⟩:=one_some.mp z;exact e
 ·cases q:h b with
  | some v=>have:=l _ _ q;rw [e] at this;cases this;simp only [q]
  | none=>simp only [q];exact one_some.mpr ⟨rfl,rfl⟩
 ·obtain ⟨B,G⟩:=cut_some.mp z
  refine cut_some.mpr ⟨B,fun v y=>?_⟩
  cases q:h c with
  | some x=>simp only [q] at y;cases y;exact G _ q
  | none=>simp only [q] at y;obtain ⟨rfl,rfl⟩:=one_some.mp y;exact m
theorem Zmg {z:Type}{xs:List z}(h:xs≠[]):∃ x∈xs,YK xs (-1)=some x:=by
 have B:=length_pos_iff.mpr h
 refine ⟨xs[xs.length - 1],Ge _,?_⟩
 have hi:Wz xs.length (-1)=some (xs.length - 1):=by
  unfold Wz
  rw [if_neg (by decide),if_pos (by omega)]
  exact congrArg some (by omega)
 unfold YK
 rw [hi]
 exact getElem?_eq_getElem (by omega)
instance {pls:List ZP}:IsLst (YO pls) (pls.length+1):=⟨fun ⟨as,e,hl,_⟩=>⟨_,e,by rw [length_map,hl]⟩⟩
theorem Zlr {L:Nat}{far r:Int}(z:0<=far)(B:0<=r)(G:r < 5):∃ b:Int,YK [V.int (-1),V.int ((L+1:Nat):Int),V.int (10 ^ (29:Int).toNat),V.int (-1 - far),V.int (((L+1:Nat):Int)+1+far)] r=some (.int b)/\(L<=10000->b < 0\/(L:Int) < b):=by
 rcases (show r=0\/r=1\/r=2\/r=3\/r=4 by omega) with rfl | rfl | rfl | rfl | rfl
 ·exact ⟨_,rfl,fun _=>by omega⟩
 ·exact ⟨_,rfl,fun _=>by omega⟩
 ·refine ⟨_,rfl,fun h=>.inr ?_⟩
  have:(10:Int) ^ (29:Int).toNat=100000000000000000000000000000:=by decide
  omega
 ·exact ⟨_,rfl,fun _=>by omega⟩
 ·exact ⟨_,rfl,fun _=>by omega⟩
theorem ZhM {a b c:Addr×Yv}{Δ:Rs}{H:Hp}(S:Sep (a::b::c::Δ) H):Sep [a,b,c] H:=by
 obtain ⟨h1,l1,I,h2,l2,G,B,z,J,_⟩:=S
 exact ⟨h1,l1,I,h2,l2,G,B,z,J,trivial⟩
theorem Zml {NS:List Str}{pls:List ZP}{nds:List Nd}{S:List (Zn×V)}{m:Nat}(I:RInv NS pls nds S)(hok:UF NS pls)(G:∀ x∈NS,XU x):Gd 10 (sdD NS pls m):=by
 unfold sdD
 refine VF (n:=9) fun d hd=>?_
 rcases mem_cons.mp hd with rfl | hd
 ·refine VF (n:=8) fun d hd=>?_
  obtain ⟨k,W,rfl⟩:=mem_map.mp hd
  have W:k<=pls.length:=by have:=mem_range.mp W;omega
  obtain ⟨eF,Z⟩:=Zha I W
  unfold stD
  refine Zay (n:=7) fun d hd=>?_
  rcases mem_cons.mp hd with rfl | hd
  ·refine VF (n:=6) fun d hd=>?_
   obtain ⟨z,_,rfl⟩:=mem_map.mp hd
   exact ZdO _
  rcases mem_cons.mp hd with rfl | hd
  ·cases k with
   | zero=>exact ⟨rfl,QF _⟩
   | succ k =>
    have J:(pls.getD k ⟨0,.clr "",0,0⟩).st.ok NS:=by
     rw [getD_eq_getElem?_getD,getElem?_eq_getElem (by omega)]
     exact hok _ (Ge _)
    show Gd 7 (ZfR _)
    revert J
    generalize (pls.getD k ⟨0,.clr "",0,0⟩).st=s
    intro J
    cases s with
    | set x v =>
     refine Zay (n:=6) fun d hd=>?_
     rcases mem_cons.mp hd with rfl | hd
     ·exact Vs (by decide +kernel)
     rcases mem_cons.mp hd with rfl | hd
     ·exact Vs (ZfI (G x J.1))
     rw [mem_singleton.mp hd];exact Zjz (.inr J.2)
    | clr x =>
     refine Zay (n:=6) fun d hd=>?_
     rcases mem_cons.mp hd with rfl | hd
     ·exact Vs (by decide +kernel)
     rw [mem_singleton.mp hd];exact Vs (ZfI (G x J))
  rcases mem_cons.mp hd with rfl | hd
  ·exact ZdO _
  rw [mem_singleton.mp hd]
  refine VF (n:=6) fun d hd=>?_
  obtain ⟨p,hp,rfl⟩:=mem_map.mp hd
  by_cases B:∃ qs,PsOf NS (envF pls k) 0 0 qs/\XR qs
  ·have e:prP NS (envF pls k)=Classical.choose B:=by unfold prP;rw [dif_pos B]
   rw [e] at hp
   have Y:=(((SI B).1.2 p.1 p.2).mp hp)
   refine Zay (n:=5) fun d hd=>?_
   rcases mem_cons.mp hd with rfl | hd
   ·exact Vs (ZfI (G _ Y.1))
   rw [mem_singleton.mp hd];exact Zjz (.inr (Z _ _ Y.2.2))
  ·have e:prP NS (envF pls k)=[]:=by unfold prP;rw [dif_neg B]
   rw [e] at hp;cases hp
 rw [mem_singleton.mp hd];exact ZdO _
section
variable {P:Qj}{w:Qr}{K:Qa}{mg:Str->Option Qb}{base:Heap}{CR CS Pl Pp:Addr}
def ZeC (Pl Pp:Addr):Sp:=fun vs H Q _=>∃(p:Addr)(Δ:Rs),vs=[.ref p]/\Sep ((p,Bx 0)::(Pl,Xh)::(Pp,Xn)::Δ) H/\∀ H',Sep ((Pl,Xh)::(Pp,Xn)::Δ) H'->Q (.bl true) H'
abbrev nRi:List Str:=["_law_box_here","_law_names_here","_law_values_here","_law_roads","_law_stops","_law_turn","_law_kept","_law_which","_law_far","_law_bad","_law_good","_law_worse","_law_one","_law_other","_law_due","_law_spot"]
abbrev ZiI:List Str:=["_law_box_here"]
theorem scRi:Zo nRi ZiI (Zj s_l_right):=⟨rfl,rfl,rfl,by decide +kernel,rfl,by decide +kernel,by decide +kernel⟩
theorem Zhy {f:Addr}{fd:Qi}(F:Fun K "_law_right" "_law_right" s_l_right f fd)(T:ZX mg)(TR:Yi K CR)(DT:DTk P w K mg base 1)(DP:Def P w K mg base 12 "_law_pool" Zit ZeJ)(DVs:Def P w K mg base 12 "_law_values" Zin ZcZ)(DRd:ZfM P w K mg base 11 CR "Roads" ZeV (ZeS K CR CS))(DFr:Def P w K mg base 12 "_law_from" Zis Zhf)(DSt:Def P w K mg base 12 "_law_step" ZiR Zgh)(DGr:Def P w K mg base 12 "_law_grown" Ziz (Zex K CR CS Pl))
 (DSd:Def P w K mg base 12 "_law_stand" Ziy (spSd K CR CS Pp)) (DRf:Def P w K mg base 12 "_law_refused" ZhH (Zjc K CR CS)):FnOk P w K mg base ZH 13 f fd ZiI (ZeC Pl Pp):=by
 refine F.ok scRi (fun vs H Q E h=>?_) (fun cdv A outer s H vs Q E hr h=>?_)
 ·obtain ⟨p,Δ,rfl,_⟩:=h;rfl
 obtain ⟨p,Δ,rfl,S,q⟩:=h
 have hr1:=hr.mono (show 1<=12 by decide)
 refine' ⟨?t,?h,?r⟩
 case h =>
  conv=>arg 2;whnf
  with_reducible refine' (Zd ?h1 (Zd ?h2 (Zd ?h3 (Zd (Wy ?h4 ?h5 ?h6 ?h7 (Zf (ZL ?h8 (Zf ?h9) ZV)) ?h10) (Zd ?h11 (Zd (Wy ?h12 ?h13 ?h14 ?h15 (Zd ?h16 (Zd ?h17 (Zd ?h18 (Zf (Wy ?h19 ?h20 ?h21 ?h22 (Zkc ?h23 (Zf (ZL ?h24 (Zf ?h25) ZV))) ?h26))))) ?h27) (Zd ?h28 (Zd (ZL ?h29 (Zf ?h30) ZV) (Zd (ZL ?h31 (Zf ?h32) ZV) (Zf ?h33))))))))))
  case h1=>exact Zav (i:=1) (j:=2) rfl scRi.nd rfl rfl (by decide) rfl rfl (Zb (ZD DP hr (Zb (pv 0) (Zb (Zs Yq Ze (ZD DT hr1 (Zb (pv 0) (Zb Ze Za)))) Za))) (Zb (ZD DVs hr (Zb (pv 0) Za)) Za)) rfl
  case h2=>exact Zt (i:=2) scRi.nd rfl (Qy rfl) (Zs Zas (pv 2) (Yg (Zb (Zr Zx (pv 1) Ze (fun _ _=>rfl)) (Zb (Zr Zx (pv 1) (UN Uc Ze) (fun _ _=>rfl)) (Zb ZK (Zb ZK Za))))))
  case h3=>exact Zav (i:=3) (j:=4) rfl scRi.nd rfl rfl (by decide) rfl rfl (Zb (Zjd DRd hr) (Zb (Yg (Zb (Yw (Zb Ue (Zb Ue Za))) Za)) Za)) rfl
  case h4=>exact Gb
  case h5=>exact rfl
  case h6=>exact YS rfl T.range (Zb (ZD DT hr1 (Zb (pv 0) (Zb Ze Za))) Za)
  case h7=>exact Ya (i:=5) scRi.nd rfl (Qy rfl)
  case h8=>exact Vz (XD (ZD DGr hr (Zb (pv 3) (Zb (pv 4) (Zb (ZD DFr hr (Zb (pv 0) (Zb (pv 4) Za))) (Zb (ZD DSt hr (Zb (pv 0) (Zb (pv 1) (Zb (pv 2) Za)))) Za))))))
  case h9=>exact Zl VG
  case h10=>exact fun _=>rfl
  case h11=>exact Zt (i:=6) scRi.nd rfl (Qy rfl) (ZD DSd hr (Zb (pv 3) Za))
  case h12=>exact Gb
  case h13=>exact rfl
  case h14=>exact YS rfl T.range (Zb Ze Za)
  case h15=>exact Ya (i:=7) scRi.nd rfl (Qy rfl)
  case h16=>exact Zt (i:=8) scRi.nd rfl (Qy rfl) (ZD DT hr1 (Zb (pv 0) (Zb Ze Za)))
  case h17=>exact Zt (i:=9) scRi.nd rfl (Qy rfl) (Zr Zx (Yg (Zb (UN Uc Ze) (Zb (Zv Zy rfl T.len QB (Zb (pv 4) Za)) (Zb (Zs Vq Ze Ze) (Zb (Zs Ys (UN Uc Ze) (pv 8)) (Zb (Zs Yq (Zs Yq (Zv Zy rfl T.len QB (Zb (pv 4) Za)) Ze) (pv 8)) Za)))))) (ZD DT hr1 (Zb (pv 0) (Zb Ze Za))) (fun _ _=>rfl))
  case h18=>exact Zav (i:=10) (j:=11) rfl scRi.nd rfl rfl (by decide) rfl rfl (Zb (ZD DT hr1 (Zb (pv 0) (Zb (Zv Zy rfl T.len QB (Zb (pv 4) Za)) Za))) (Zb (Zr Zx (Yg (Zb (UN Uc Ze) (Zb (Zs Yq (Zv Zy rfl T.len QB (Zb (pv 4) Za)) Ze) Za))) (ZD DT hr1 (Zb (pv 0) (Zb Ze Za))) (fun _ _=>rfl)) Za)) rfl
  case h19=>exact Gb
  case h20=>exact rfl
  case h21=>exact Zbo (Zs Zas (Yg (Zb (Yw (Zb (pv 9) (Zb (pv 10) Za))) (Zb (Yw (Zb (pv 9) (Zb (pv 11) Za))) Za))) (Zs ZgU (Yg (Zb (Yw (Zb (pv 10) (Zb (pv 9) Za))) Za)) (YB VC rfl T.int (by decide +kernel) (Zb (Xa ZiV (pv 7) Ze (ZB _)) Za))))
  case h22=>exact WZ rfl (Yt (Ya (i:=12) scRi.nd rfl (Qy rfl)) (Yt (Ya (i:=13) scRi.nd rfl (Qy rfl)) Wh))
  case h23=>exact Zt (i:=14) scRi.nd rfl (Qy rfl) (XJ (ZE ZU (pv 12) (pv 9) (ZB _)) (pv 12) (pv 13))
  case h24=>exact PW.pt (Zfs (ZE ZeZ (ZD DRf hr (Zb (pv 3) (Zb (pv 7) (Zb (pv 12) (Zb (pv 13) (Zb (Zr Zx (pv 1) Ze (fun _ _=>rfl)) Za)))))) (pv 14) (ZB _)) (ZcU (ZE (ZlY hr.units) (ZD DSd hr (Zb (pv 3) Za)) (pv 6) (ZB _))))
  case h25=>exact Zl VG
  case h26=>exact fun _=>rfl
  case h27=>exact fun _=>rfl
  case h28=>exact Zt (i:=15) scRi.nd rfl (Qy rfl) (Zv Zy rfl T.len QB (Zb (pv 4) Za))
  case h29=>exact Vz (XD (ZD DGr hr (Zb (pv 3) (Zb (pv 4) (Zb (ZD DFr hr (Zb (pv 0) (Zb (pv 4) Za))) (Zb (ZD DSt hr (Zb (pv 0) (Zb (pv 1) (Zb (pv 2) Za)))) Za))))))
  case h30=>exact Zl VG
  case h31=>exact WB (UA (ZD DRf hr (Zb (pv 3) (Zb Ze (Zb (pv 15) (Zb Ze (Zb (Zr Zx (pv 1) Ze (fun _ _=>rfl)) Za)))))))
  case h32=>exact Zl VG
  case h33=>exact Zl (Xa ZU (ZD DRf hr (Zb (pv 3) (Zb Ze (Zb (Zv Zy rfl T.len QB (Zb (pv 4) Za)) (Zb Ze (Zb ZK Za)))))) (Zv Zy rfl T.len QB (Zb (pv 4) Za)) (ZB _))
 try dsimp only [ZN,Cx.nox]
 refine zs10 ?_
 intro zD zS zN9 zN8 zN7 zN6 zN5 zN4 zN3 zN2 zN1
 refine ⟨_,rfl,_,rfl,p,0,9,_,rfl,S,by decide,by decide,by decide,fun r1 H1 a0 a1 S1=>⟨_,_,rfl,rfl,p,_,_,_,rfl,S1,by omega,by omega,by omega,fun Z H2 xs S2 hx1 hx2 hnd hnm h2=>?_⟩⟩
 refine ⟨_,rfl,p,_,_,rfl,S2.pull p,by omega,fun vl H3 us S3 hul huv=>⟨_,_,rfl,?_⟩⟩
 have hxn:xs≠[]:=length_pos_iff.mp (by omega)
 have N:Yj xs:=ZmI (by omega) hnm
 obtain ⟨z0,hz0,at0⟩:=ZgQ (f:=V.str) (xs:=xs) (r:=0) (by decide) (by omega)
 obtain ⟨v9,hv9,at9⟩:=Zmg (xs:=xs.map V.str) (fun z=>hxn (List.map_eq_nil_iff.mp z))
 obtain ⟨z9,hz9,rfl⟩:=mem_map.mp hv9
 refine ⟨_,rfl,_,rfl,Z,_,_,_,rfl,rfl,SqL.of (S3.get Z),at0,_,rfl,_,rfl,Z,_,_,_,rfl,rfl,SqL.of (S3.get Z),at9,(by show 4<=Qh;decide),fun l1 hl1=>?_⟩
 generalize hE:upd H3 l1 _=H4
 have S4:=S3.newE hl1 hE
 clear hE
 refine ⟨vl,l1,_,_,rfl,rfl,S4.get vl,S4.get l1,Yy (show us.length+4<=1000 by omega),fun l2 hl2=>?_⟩
 generalize hE:upd H4 l2 _=H5
 have S5:=(((S4.newE hl2 hE).drop l1).drop vl)
 clear hE
 have hUv:∀ u∈us++[V.str z0,V.str z9,V.str "set",V.str "clear"],YW u:=fun u hu=>by
  rcases mem_append.mp hu with y | y
  ·exact huv u y
  ·rcases mem_cons.mp y with rfl | y
   ·exact ZcR (hnm _ hz0)
   rcases mem_cons.mp y with rfl | y
   ·exact ZcR (hnm _ hz9)
   ·have all:([.str "set",.str "clear"]:List V).all ZaU=true:=by decide +kernel
    exact UU (all_eq_true.mp all u y)
 have hUl:(us++[V.str z0,V.str z9,V.str "set",V.str "clear"]).length=9:=by rw [length_append,hul];rfl
 generalize hU:us++[V.str z0,V.str z9,V.str "set",V.str "clear"]=U at *
 have hUn:U≠[]:=length_pos_iff.mp (by omega)
 intro r dx hrr hdx hne
 refine ⟨r,dx,_,_,rfl,rfl,hrr,hdx,hne,S5,fun H6 S6=>⟨rfl,(by show 2<=Qh;decide),fun t0 ht0=>⟨(by show 1<=Qh;decide),fun J hsl=>⟨_,_,rfl,?_⟩⟩⟩⟩
 generalize hE:upd (upd H6 t0 _) J _=H7
 have S7:=(S6.new ht0 _).newE hsl hE
 clear hE
 have S8:=((ZgZ (S7.pull J) (S7.get t0) rfl).say J (YO []) fun h ⟨z1,z2⟩=>⟨[t0],z1,rfl,fun a e=>by cases (show some t0=some a from e);exact z2,fun i a q e1 e2=>by simp at e2⟩).drop t0
 refine ⟨_,rfl,p,_,31,_,rfl,S8.pull p,by decide,by decide,by decide,fun m H9 m0 m1 S9=>⟨m,rfl,by omega,by omega,?_⟩⟩
 refine Uq (fun i σ H'=>∃ x5 pls nds W n,σ=[some (.ref p),some (.ref Z),some (.ref l2),some (.ref r),some (.ref J),x5,none,none,none,none,none,none,none,none,none,none]/\Sep ((p,Bx n)::(r,XL K CR CS pls nds W)::(Pl,Xh)::(Pp,Xn)::(J,YO pls)::(Z,Ye (xs.map V.str))::(l2,Ye U)::Δ) H'/\RInv xs pls nds W/\UF xs pls/\pls.length=i/\nds.length<=1+6 * i/\W.length<=1+i/\n<=1000+10 * i)
  ⟨_,[],_,_,_,rfl,((((((S9.pull l2).pull Z).pull J).pull Pp).pull Pl).pull r).pull p,ZmF,(fun _ h=>nomatch h),rfl,by decide,by decide,by decide⟩ ?_ ?_
 ·rintro i σ H10 hi ⟨x5,pls,nds,W,n,rfl,S10,I,hok,hpl,hnd,htb,hn⟩
  refine ⟨_,rfl,_,rfl,_,rfl,_,rfl,p,J,n,pls.length+1,YO pls,_,rfl,(S10.pull J).pull p,inferInstance,by omega,by omega,by omega,fun kk H11 hkk S11=>?_⟩
  refine ⟨_,rfl,_,rfl,_,rfl,p,Z,l2,_,xs,U,_,rfl,((S11.pull l2).pull Z).pull p,hxn,hUn,by omega,by omega,hUv,by omega,fun t H12 s hs S12=>?_⟩
  refine ⟨xs,r,J,t,pls,nds,W,kk,s,_,rfl,N,((S12.pull J).pull Pl).pull r,S12.get t,I,hs,by omega,by omega,by omega,by omega,fun H13 nds' tabs' q' S13 I13 l1' l2' hq=>⟨_,rfl,Yh ?_⟩⟩
  have S14:=(((((((S13.drop t).pull l2).pull Z).pull J).pull Pp).pull Pl).pull r).pull p
  exact ⟨_,pls++[q'],nds',tabs',_,rfl,S14,I13,Zfl hok hq,by rw [length_append,hpl];rfl,by omega,by omega,by omega⟩
 rintro σ H10 ⟨x5,pls,nds,W,n,rfl,S10,I,hok,hpl,hnd,htb,hn⟩
 refine ⟨_,rfl,xs,r,pls,nds,W,_,rfl,N,(S10.pull Pp).pull r,I,hok,by omega,fun kl H11 S11=>?_⟩
 refine ⟨15,rfl,by decide,by decide,?_⟩
 have gdD:Gd 10 (sdD xs pls nds.length):=Zml I hok hnm
 generalize hD0:sdD xs pls nds.length=D0 at S11 gdD
 refine Uq (fun i σ H'=>∃ x7 x8 x9 x10 x11 x12 x13 x14 n',σ=[some (.ref p),some (.ref Z),some (.ref l2),some (.ref r),some (.ref J),x5,some (.ref kl),x7,x8,x9,x10,x11,x12,x13,x14,none]/\Sep ((p,Bx n')::(kl,DaR D0)::(r,XL K CR CS pls nds W)::(Pl,Xh)::(Pp,Xn)::(J,YO pls)::(Z,Ye (xs.map V.str))::(l2,Ye U)::Δ) H'/\n'<=n+10 * i)
  ⟨_,_,_,_,_,_,_,_,n,rfl,((((((((S11.pull l2).pull Z).pull J).pull Pp).pull Pl).pull r).pull kl).pull p),by omega⟩ ?_ ?_
 ·rintro i σ H12 hi ⟨x7,x8,x9,x10,x11,x12,x13,x14,n',rfl,S12,hn'⟩
  refine zs4 ?_
  intro zD zS zN3 zN2 zN1
  refine ⟨_,rfl,p,n',60,_,rfl,S12,by omega,by decide,by decide,fun far H13 f0 f1 S13=>?_⟩
  obtain ⟨ys,ey,hyl⟩:=S13.isl J (inferInstance:IsLst (YO pls) (pls.length+1))
  refine ⟨_,rfl,_,rfl,J,_,rfl,.inl (SqL.of ey),_,_,rfl,rfl,⟨by decide,by decide,by decide⟩,_,rfl,_,rfl,_,_,rfl,rfl,_,rfl,J,_,rfl,.inl (SqL.of ey),_,_,rfl,rfl,_,rfl,_,_,rfl,rfl,(by show 5<=Qh;decide),fun bl hbl=>?_⟩
  rw [hyl]
  generalize hE:upd H13 bl _=H14
  have S14:=S13.newE hbl hE
  clear hE
  refine ⟨_,rfl,p,_,5,_,rfl,S14.pull p,by omega,by decide,by decide,fun r5 H15 g0 g1 S15=>?_⟩
  obtain ⟨B,hat,hbd⟩:=Zlr (L:=pls.length) (far:=far) f0 g0 g1
  refine ⟨bl,_,_,_,rfl,rfl,SqL.of (S15.get bl),hat,?_⟩
  have S16:=S15.drop bl
  obtain ⟨ys2,ey2,hyl2⟩:=S16.isl J (inferInstance:IsLst (YO pls) (pls.length+1))
  refine ⟨_,rfl,_,rfl,J,_,rfl,.inl (SqL.of ey2),p,_,_,_,rfl,S16,by omega,by rw [hyl2];omega,by rw [hyl2];omega,fun gd H17 c0 c1 S17=>?_⟩
  rw [hyl2] at c1
  obtain ⟨gn,rfl⟩:∃ z:Nat,gd=(z:Int):=⟨gd.toNat,by omega⟩
  obtain ⟨ys3,ey3,hyl3⟩:=S17.isl J (inferInstance:IsLst (YO pls) (pls.length+1))
  refine ⟨_,rfl,_,rfl,J,_,rfl,.inl (SqL.of ey3),_,_,rfl,rfl,(by show 2<=Qh;decide),fun wl hwl=>?_⟩
  generalize hE:upd H17 wl _=H18
  have S18:=S17.newE hwl hE
  clear hE
  refine ⟨_,rfl,p,_,2,_,rfl,S18.pull p,by omega,by decide,by decide,fun r2 H19 d0 d1 S19=>?_⟩
  obtain ⟨wv,hwv⟩:∃ z:Int,YK [V.int (-2),V.int (((ys3.length:Nat):Int)+70)] r2=some (.int z):=by
   rcases (show r2=0\/r2=1 by omega) with rfl | rfl
   ·exact ⟨_,rfl⟩
   ·exact ⟨_,rfl⟩
  refine ⟨wl,_,_,_,rfl,rfl,SqL.of (S19.get wl),hwv,_,_,rfl,?_⟩
  have S20:=(S19.drop wl)
  refine ⟨_,rfl,_,rfl,(by show 2<=Qh;decide),fun ta hta=>⟨_,rfl,_,rfl,(by show 2<=Qh;decide),fun tb htb=>⟨(by show 2<=Qh;decide),fun la hla=>⟨_,rfl,_,rfl,(by show 2<=Qh;decide),fun tc htc=>⟨(by show 1<=Qh;decide),fun lb hlb=>?_⟩⟩⟩⟩⟩
  generalize hE:upd (upd (upd (upd (upd H19 ta _) tb _) la _) tc _) lb _=H21
  have S21:=((((S20.new hta _).new htb _).new hla _).new htc _).newE hlb hE
  clear hE
  refine ⟨_,rfl,_,_,rfl,rfl,.inr ⟨_,rfl,?_⟩⟩
  refine ⟨lb,_,_,rfl,rfl,S21.get lb,by split<;>decide,by split<;>decide,by split<;>exact Yy (show _<=1000 by simp),fun lc hlc=>?_⟩
  generalize hE:upd H21 lc _=H22
  have S22:=S21.newE hlc hE
  clear hE
  refine ⟨la,lc,_,_,rfl,rfl,S22.get la,S22.get lc,by split<;>exact Yy (show _<=1000 by simp),fun ld hld=>?_⟩
  generalize hE:upd H22 ld _=H23
  have S23:=S22.newE hld hE
  clear hE
  have hbad:Zfw pls B:=hbd (by omega)
  generalize hIt:[V.ref ta,V.ref tb]++(QH (Int.toNat (if decide ((11:Int) < 0+(i:Int))=true then 1 else 0)) [V.ref tc]).flatten=its at S23
  have hits:∀ v∈its,∀ H',Sep [(ta,VP [.int B,.int (gn:Int)]),(tb,VP [.int B,.int wv]),(tc,VP [.int (gn:Int),.int B])] H'->∃ t one Y,v=.ref t/\H' t=some (.tup [.int one,.int Y])/\Zcy pls one Y B/\((i:Int) < 12->B=one)/\(one=B\/Y=B):=by
   intro v hv H' G
   rw [<- hIt] at hv
   rcases mem_append.mp hv with z | z
   ·rcases mem_cons.mp z with rfl | z
    ·exact ⟨ta,_,_,rfl,G.get ta,⟨hbad,.inl rfl⟩,fun _=>rfl,.inl rfl⟩
    ·rw [mem_singleton.mp z]
     exact ⟨tb,_,_,rfl,G.get tb,⟨hbad,.inl rfl⟩,fun _=>rfl,.inl rfl⟩
   ·by_cases h11:(11:Int) < 0+(i:Int)
    ·rw [decide_eq_true h11] at z
     have:v=.ref tc:=by simpa using z
     subst this
     exact ⟨tc,_,_,rfl,G.get tc,⟨hbad,.inr ⟨rfl,gn,rfl,by omega⟩⟩,fun _=>by omega,.inr rfl⟩
    ·rw [decide_eq_false h11] at z
     simp at z
  have S24:=((((((((((((((S23.drop lc).drop lb).drop la).pull l2).pull Z).pull J).pull Pp).pull Pl).pull r).pull kl).pull p).pull tc).pull tb).pull ta).pull ld
  refine ⟨ld,rfl,⟨_,SqL.of (S24.get ld)⟩,?_⟩
  refine Zdv (K:=K) (xs:=its) (fun j σ H'=>∃ x12 x13 x14,σ=[some (.ref p),some (.ref Z),some (.ref l2),some (.ref r),some (.ref J),x5,some (.ref kl),some (.int (0+(i:Int))),some (.int far),some (.int B),some (.int (gn:Int)),some (.int wv),x12,x13,x14,none]/\Sep ((ld,Ye its)::(ta,VP [.int B,.int (gn:Int)])::(tb,VP [.int B,.int wv])::(tc,VP [.int (gn:Int),.int B])::(p,Bx (n'+1+1+1+1))::(kl,DaR D0)::(r,XL K CR CS pls nds W)::(Pl,Xh)::(Pp,Xn)::(J,YO pls)::(Z,Ye (xs.map V.str))::(l2,Ye U)::Δ) H')
   ⟨_,_,_,rfl,S24⟩ ?_ ?_ ?_
  ·rintro j σ H' _ ⟨x12,x13,x14,rfl,S'⟩
   exact SqL.of (S'.get ld)
  ·rintro j v σ H25 hv ⟨x12,x13,x14,rfl,S25⟩
   obtain ⟨tt,one,Y,rfl,et,hB,hB2,hB3⟩:=hits v (mem_of_getElem? hv) H25 (((((((((((((S25.drop ld).drop p).drop kl).drop r).drop Pl).drop Pp).drop J).drop Z).drop l2).pull tc).pull tb).pull ta) |> ZhM)
   refine ⟨tt,_,rfl,SqT.of et,rfl,_,_,rfl,_,_,rfl,rfl,?_⟩
   refine ⟨fun σ' H'=>σ'=[some (.ref p),some (.ref Z),some (.ref l2),some (.ref r),some (.ref J),x5,some (.ref kl),some (.int (0+(i:Int))),some (.int far),some (.int B),some (.int (gn:Int)),some (.int wv),some (.int one),some (.int Y),some (.int B),none]/\H'=H25,?_,?_⟩
   ·refine ⟨_,rfl,_,rfl,rfl,_,rfl,Wj (fun c=>?_) (fun c=>?_)⟩
    ·have e:one=B:=by have:=of_decide_eq_true c;cases this;rfl
     exact ⟨_,rfl,by rw [e];rfl,rfl⟩
    ·have e:Y=B:=hB3.resolve_left fun z=>c (decide_eq_true (by rw [z]))
     exact ⟨_,rfl,by rw [e];rfl,rfl⟩
   rintro σ' H' ⟨rfl,rfl⟩
   refine ⟨_,rfl,_,rfl,_,rfl,_,rfl,_,rfl,Z,_,_,_,rfl,rfl,SqL.of (S25.get Z),at0,r,pls,nds,W,_,one,Y,z0,rfl,S25.get r,I.wf,by omega,.inl ⟨B,by omega,by omega,hB,fun h12=>hB2 (by omega),fun H26 s26=>?_⟩⟩
   refine ⟨_,rfl,rfl,_,rfl,?_⟩
   rw [show (!decide (V.int B=V.int B))=false by simp]
   refine Yh ?_
   have S26:=S25.mono s26
   refine ⟨_,rfl,xs,r,pls,nds,W,_,rfl,N,(S26.pull Pp).pull r,I,hok,by omega,fun l27 H27 S27=>?_⟩
   rw [hD0] at S27
   refine ⟨_,rfl,D0,D0,S27.get l27,S27.get kl,gdD.1,gdD.1,Qw gdD.2 (by decide),_,rfl,?_⟩
   rw [SeqAt.eqv_refl _ gdD.1]
   refine Yh ?_
   exact ⟨_,_,_,rfl,((((((((((((S27.drop l27).pull l2).pull Z).pull J).pull Pp).pull Pl).pull r).pull kl).pull p).pull tc).pull tb).pull ta).pull ld⟩
  ·rintro σ H' ⟨x12,x13,x14,rfl,S'⟩
   exact ⟨_,_,_,_,_,_,_,_,_,rfl,(((S'.drop ld).drop ta).drop tb).drop tc,by omega⟩
 ·rintro σ H12 ⟨x7,x8,x9,x10,x11,x12,x13,x14,n',rfl,S12,hn'⟩
  obtain ⟨ys,ey,hyl⟩:=S12.isl J (inferInstance:IsLst (YO pls) (pls.length+1))
  refine ⟨_,rfl,J,_,rfl,.inl (SqL.of ey),?_⟩
  rw [hyl]
  refine ⟨_,rfl,_,rfl,_,rfl,_,rfl,p,J,n',pls.length+1,YO pls,_,rfl,(S12.pull J).pull p,inferInstance,by omega,by omega,by omega,fun kk H13 hkk S13=>?_⟩
  refine ⟨_,rfl,_,rfl,_,rfl,p,Z,l2,_,xs,U,_,rfl,((S13.pull l2).pull Z).pull p,hxn,hUn,by omega,by omega,hUv,by omega,fun t H14 s hs S14=>?_⟩
  refine ⟨xs,r,J,t,pls,nds,W,kk,s,_,rfl,N,((S14.pull J).pull Pl).pull r,S14.get t,I,hs,by omega,by omega,by omega,by omega,fun H15 nds' tabs' q' S15 I15 l1' l2' hq=>⟨_,rfl,Yh ?_⟩⟩
  have hl':(pls++[q']).length=pls.length+1:=by rw [length_append];rfl
  refine ⟨_,rfl,_,rfl,_,rfl,Z,_,_,_,rfl,rfl,SqL.of (S15.get Z),at0,r,pls++[q'],nds',tabs',_,_,_,z0,rfl,S15.get r,I15.wf,by omega,.inr ⟨pls.length+1,rfl,rfl,by omega,fun H16 s16=>⟨_,rfl,Yh ?_⟩⟩⟩
  have S16:=S15.mono s16
  obtain ⟨ys2,ey2,hyl2⟩:=S16.isl J (inferInstance:IsLst (YO (pls++[q'])) ((pls++[q']).length+1))
  refine ⟨_,rfl,_,rfl,J,_,rfl,.inl (SqL.of ey2),?_⟩
  rw [hyl2]
  refine ⟨r,pls++[q'],nds',tabs',_,_,_,"a",rfl,S16.get r,I15.wf,by omega,.inl ⟨(((pls++[q']).length+1:Nat):Int),by decide,by decide,⟨.inr (by omega),.inl rfl⟩,fun _=>rfl,fun H17 s17=>?_⟩⟩
  have S17:=S16.mono s17
  obtain ⟨ys3,ey3,hyl3⟩:=S17.isl J (inferInstance:IsLst (YO (pls++[q'])) ((pls++[q']).length+1))
  refine ⟨_,rfl,J,_,rfl,.inl (SqL.of ey3),?_⟩
  rw [hyl3]
  refine ⟨rfl,?_⟩
  rw [decide_eq_true rfl]
  exact q H17 ((((((((((S17.drop r).drop J).drop t).drop p).drop Z).drop l2).drop kl).pull Pp).pull Pl))
end
def ScR (K:Qa)(ns:List Int):Yv:=fun a h=>SqL K h a (ns.map V.int)
theorem Znc {K:Qa}{H H':Hp}{a:Addr}{xs:List V}(h:SqL K H a xs)(s:Same H H'):SqL K H' a xs:=by
 rcases h with (h | ⟨o,h⟩) | h
 ·exact .inl (.inl (s _ _ h))
 ·exact .inl (.inr ⟨o,s _ _ h⟩)
 ·exact .inr h
instance {K:Qa} {ns:List Int}:Up (ScR K ns):=⟨fun h s=>Znc h s⟩
theorem ZeL {H:Hp}{Pl:Addr}{G:Pos}{q:Str}{Δ:Rs}(I:LamAt H Pl G q)(S:Sep Δ (WE H (some_of H [Pl]))):Sep ((Pl,ZcV G q)::Δ) H:=by
 refine ⟨some_of H [Pl],Wf,?_,S⟩
 have B:some_of H [Pl] Pl=H Pl:=XQ (by simp)
 rcases I with z | ⟨c,J,W⟩
 ·exact .inl (by rw [B];exact z)
 ·exact .inr ⟨c,by rw [B];exact J,WO W rfl⟩
theorem ZaS {H:Hp}{Pl b:Addr}{o:HO}(e:H b=some o)(h:b≠Pl):WE H (some_of H [Pl]) b=some o:=cut_some.mpr ⟨e,fun u z=>by
 cases m:Yx u with
 | false=>rfl
 | true=>exact absurd (mem_singleton.mp (XI z m)) h⟩
theorem Zkv {H:Hp}{Pl Pp:Addr}{I J:Pos}{q r:Str}(W:LamAt H Pl J r)(S:LamAt H Pp I q)(h:Pl≠Pp):LamAt (WE H (some_of H [Pl])) Pp I q:=by
 obtain ⟨tb,G⟩:=W.tbl
 rcases S with z | ⟨c,Y,B⟩
 ·exact .inl (ZaS z h.symm)
 ·exact .inr ⟨c,ZaS Y h.symm,ZaS B (fun y=>by rw [y,G] at B;cases B)⟩
theorem Zed {K:Qa}{H:Hp}{Pl a:Addr}{G:Pos}{r:Str}{xs:List V}(J:LamAt H Pl G r)(I:SqL K H a xs):SqL K (WE H (some_of H [Pl])) a xs:=by
 obtain ⟨tb,B⟩:=J.tbl
 rcases I.obj with z | ⟨o,e,nt,z⟩
 ·exact z _
 ·refine z _ (ZaS e fun y=>?_)
  rw [y,B] at e;cases e;exact absurd rfl (nt _)
theorem Zgl {K:Qa}{H:Hp}{a Pl Pp:Addr}{G:List Int}(I:SqL K H a (G.map V.int))(B:LamAt H Pl YH Xx)(J:LamAt H Pp Xq XX)(z:Pl≠Pp):Sep [(Pl,Xh),(Pp,Xn),(a,ScR K G)] H:=by
 have h1:=Zkv B J z
 exact ZeL B (ZeL h1 ⟨_,fun b o e=>e,Zed h1 (Zed B I),trivial⟩)
section
variable {P:Qj}{w:Qr}{K:Qa}{mg:Str->Option Qb}{base:Heap}{CR CS Pl Pp:Addr}
def Zcv (K:Qa)(Pl Pp:Addr):Sp:=fun vs H Q _=>∃(a:Addr)(ns:List Int),vs=[.ref a]/\SqL K H a (ns.map V.int)/\ns.length<=63/\LamAt H Pl YH Xx/\LamAt H Pp Xq XX/\Pl≠Pp/\∀ H',Q (.bl true) H'
abbrev nLw:List Str:=["_law_script"]
abbrev pnLw:List Str:=["_law_script"]
theorem scLw:Zo nLw pnLw (Zj s_law):=⟨rfl,rfl,rfl,by decide +kernel,rfl,by decide +kernel,by decide +kernel⟩
theorem ZlQ {f:Addr}{fd:Qi}(F:Fun K "law" "law" s_law f fd)(T:ZX mg)(DB:Def P w K mg base 13 "_law_box" ["_law_script","_law_k"] (Zdd K))(Y:Def P w K mg base 13 "_law_right" ZiI (ZeC Pl Pp)):FnOk P w K mg base ZH 14 f fd pnLw (Zcv K Pl Pp):=by
 refine F.ok scLw (fun vs H Q E h=>?_) (fun cdv A outer s H vs Q E hr h=>?_)
 ·obtain ⟨a,G,rfl,_⟩:=h;rfl
 obtain ⟨a,G,rfl,hS,h63,hL,hP,W,q⟩:=h
 have S:=Zgl hS hL hP W
 refine' ⟨?t,?h,?r⟩
 case h =>
  conv=>arg 2;whnf
  with_reducible refine' (Zf ?h1)
  case h1=>exact Zl (Zv (Zii rfl) rfl T.all (by decide +kernel) (Zb (UD (CompOk.of nLw s_law rfl rfl (by decide +kernel)) rfl (YS rfl T.range (Zb (Zs Yq Ze (Zv (Zgs rfl) rfl T.min (by decide +kernel) (Zb Ze (Zb (Zv Zy rfl T.len QB (Zb (pv 0) Za)) Za)))) Za))  (fun _ _ _ _ _=>ZD Y hr (Zb (ZD DB hr (Zb (pv 0) (Zb (pv 1) Za))) Za))) Za))
 try dsimp only [ZN,Cx.nox]
 refine ⟨_,rfl,a,_,rfl,.inl hS,_,_,rfl,_,_,rfl,rfl,?_⟩
 rw [length_map]
 generalize hm:(1:Int)+(if ((G.length:Nat):Int) < 3 then ((G.length:Nat):Int) else 3)=m
 have hm9:0<=m/\m<=9:=by rw [<- hm];split<;>omega
 refine ⟨m,congrArg (fun z=>[V.int z]) hm,by omega,by omega,fun D hD=>?_⟩
 refine Wt (by exact Qw (show _<=1000 by omega) (by decide)) S hD (fun i I B=>I=(QH i true).map V.bl/\B=[(Pl,Xh),(Pp,Xn),(a,ScR K G)]) ⟨rfl,rfl⟩ ?_ ?_
 ·rintro i Z B H' hi hl ⟨rfl,rfl⟩ S'
  refine ⟨_,rfl,_,rfl,a,G,_,_,rfl,S'.get a,S',by omega,by omega,fun p H1 s1 S1=>?_⟩
  refine ⟨p,_,rfl,((S1.pull Pp).pull Pl).pull p,fun H2 J=>⟨_,⟨?_,rfl⟩,(J.pull D)⟩⟩
  rw [List.replicate_succ',map_append];rfl
 ·rintro Z B H2 ⟨rfl,rfl⟩ hl J
  refine ⟨D,_,rfl,SqL.of (J.get D),?_⟩
  rw [show ∀ k,(QH k true).all id=true from fun k=>by simp]
  exact q H2
end
abbrev Zjx (P:Qj)(w:Qr)(K:Qa)(mg:Str->Option Qb)(base:Heap):Prop:=Def P w K mg base 1 "_law_take" ["_law_box_here","_law_many"] (ZaC 4611686018427387904)
section
variable {P:Qj}{w:Qr}{K:Qa}{mg:Str->Option Qb}{base:Heap}
abbrev vSigns:Str:=ZiZ (Xj s_l_value)
theorem vs_len:vSigns.length=94:=by decide +kernel
theorem ZkS:vSigns.cps.toList.all VQ=true:=by decide +kernel
abbrev nVv:List Str:=["_law_box_here","_law_way","_law_signs"]
theorem scVal:Zo nVv ["_law_box_here"] (Zj s_l_value):=⟨rfl,rfl,rfl,by decide +kernel,rfl,by decide +kernel,by decide +kernel⟩
theorem ZiS {f:Addr}{fd:Qi}(F:Fun K "_law_value" "_law_value" s_l_value f fd)(T:Txt K mg)(D:Zjx P w K mg base):FnOk P w K mg base ZH 2 f fd ["_law_box_here"] Zeh:=by
 refine F.ok scVal (fun vs H Q E h=>?_) (fun cdv A outer s H vs Q E hr h=>?_)
 · obtain ⟨p,n,rfl,_⟩:=h;rfl
 obtain ⟨p,n,rfl,hB,hn,q⟩:=h
 refine ⟨_,Zd (Zt (i:=1) scVal.nd rfl (Qy rfl) (ZD D hr (Zb (pv 0) (Zb Ze Za))))
   (Zd (ZL (ZE VM (pv 1) Ze (ZB _)) (Zf (Zl (Zs Ys (ZD D hr (Zb (pv 0) (Zb Ze Za))) Ze))) ZV)
   (Zd (ZL (ZE ZU (pv 1) Ze (ZB _)) (Zf (Zl (Zr Zx (Yg (YU (Zs Ys (Zs Vq Ze Ze) Ze) (YU (Zs Ys Ze (Zs Vq Ze Ze)) (YU (Zs Vq Ze Ze) (YU Ze Za rfl) rfl) rfl) rfl)) (ZD D hr (Zb (pv 0) (Zb Ze Za))) (fun _ _=>rfl)))) ZV)
   (Zd (ZL (ZE ZU (pv 1) Ze (ZB _)) (Zf (Zl (Zr Zx (Yg (YU ZK (YU ZK (YU ZK (YU ZK (YU ZK (YU ZK (YU ZK (YU ZK Za rfl) rfl) rfl) rfl) rfl) rfl) rfl) rfl)) (ZD D hr (Zb (pv 0) (Zb Ze Za))) (fun _ _=>rfl)))) ZV)
   (Zd (Zt (i:=2) scVal.nd rfl (Tr rfl) ZK)
   (Zf (Zl (Yz Jc SJ SK ZeR ZK (Zb (UD (CompOk.of nVv s_l_value rfl rfl (by decide +kernel)) rfl
     (YS rfl T.range (Zb (ZD D hr (Zb (pv 0) (Zb (XJ (ZE ZU (pv 1) Ze (ZB _)) Ze Ze) Za))) Za))
     (fun _ _ _ _ _=>Zr WD (pv 2) (ZD D hr (Zb (pv 0) (Zb (Zv (Zgm (K:=K) rfl) rfl T.len QB (Zb (pv 2) Za)) Za))) (fun _ _=>rfl))) Za)))))))),?_⟩
 refine ⟨_,rfl,p,n,6,rfl,hB,by omega,by decide,by decide,fun r1 H1 a0 a1 W k1=>?_⟩
 refine ⟨_,rfl,_,_,rfl,rfl,_,rfl,Wj (fun c=>?_) (fun c=>?_)⟩
 · refine ⟨_,rfl,p,n+1,7,rfl,W,by omega,by decide,by decide,fun B H2 b0 b1 I k2=>⟨_,_,rfl,rfl,?_⟩⟩
   exact q _ _ (by show (B - 3).natAbs < 10 ^ 30;omega) (I.le (by omega)) (k1.trans k2)
 refine ⟨_,rfl,rfl,_,rfl,Wj (fun c2=>?_) (fun c2=>?_)⟩
 · refine ⟨_,_,rfl,rfl,⟨by decide,by decide,by decide⟩,_,_,rfl,rfl,_,_,rfl,rfl,⟨by decide,by decide,by decide⟩,_,_,rfl,rfl,_,_,rfl,rfl,⟨by decide,by decide,by decide⟩,(by show 4<=Qh;decide),fun l J=>?_⟩
   have G:l≠p:=fun e=>by obtain ⟨_,_,_,z,_⟩:=W;rw [e,z] at J;cases J
   refine ⟨_,rfl,p,n+1,4,rfl,W.same (Zm J _),by omega,by decide,by decide,fun B H2 b0 b1 I k2=>?_⟩
   obtain ⟨v,hv,hm⟩:=Zbp (xs:=([.int (10 ^ (30:Int).toNat - 1),.int (1 - 10 ^ (30:Int).toNat),.int (10 ^ (29:Int).toNat),.int 0]:List V)) b0 b1
   refine ⟨l,_,_,v,rfl,rfl,SqL.of (k2 l _ G Zh),hv,q _ _ ?_ (I.le (by omega)) (k1.trans ((Zm J _).kp p |>.trans k2))⟩
   have all:(([.int (10 ^ (30:Int).toNat - 1),.int (1 - 10 ^ (30:Int).toNat),.int (10 ^ (29:Int).toNat),.int 0]:List V)).all ZaU=true:=by decide +kernel
   exact UU (all_eq_true.mp all v hm)
 refine ⟨_,rfl,rfl,_,rfl,Wj (fun c3=>?_) (fun c3=>?_)⟩
 · refine ⟨(by show 8<=Qh;decide),fun l J=>?_⟩
   have G:l≠p:=fun e=>by obtain ⟨_,_,_,z,_⟩:=W;rw [e,z] at J;cases J
   refine ⟨_,rfl,p,n+1,8,rfl,W.same (Zm J _),by omega,by decide,by decide,fun B H2 b0 b1 I k2=>?_⟩
   obtain ⟨v,hv,hm⟩:=Zbp (xs:=([.str "",.str "0",.str "-1",.str "a",.str "none",.str "'",.str "\\", .str " "]:List V)) b0 b1
   refine ⟨l,_,_,v,rfl,rfl,SqL.of (k2 l _ G Zh),hv,q _ _ ?_ (I.le (by omega)) (k1.trans ((Zm J _).kp p |>.trans k2))⟩
   have all:(([.str "",.str "0",.str "-1",.str "a",.str "none",.str "'",.str "\\", .str " "]:List V)).all ZaU=true:=by decide +kernel
   exact UU (all_eq_true.mp all v hm)
 refine ⟨rfl,?_⟩
 have fin:∀ (B:Int) (H2:Hp),0<=B->B < 41->BoxAt H2 p (n+2)->Kp p H1 H2->∃ j:Int,[V.int B]=[.int j]/\-(2 ^ 62)<=j/\j < 2 ^ 62/\∀ D,H2 D=none->CompW (Itr 0 j.toNat)
     (tOp rIxS (ZcS 2) (ZfA (ZaC 4611686018427387904) [] E0 (Xu (ZcS 0) (Xu (tCB (fun xs H Q=>∃ x n,xs=[x]/\ZiC K x H n/\Q (.int n) H) (Xu (ZcS 2) Wr)) Wr))))
     [some (.ref p),some (.int r1),some (.str vSigns)] D (fun x H3=>∃ Z a ys,V.str ""=.str Z/\[x]=[.ref a]/\SqL K H3 a (ys.map V.str)/\(ys.map (·.length)).sum+ys.length * Z.length<=16777216/\Q (.str (Txt.join Z ys)) H3) H2:=by
   intro B H2 b0 b1 I k2
   refine ⟨B,rfl,by omega,by omega,fun Dl hD=>?_⟩
   have G:Dl≠p:=fun e=>by obtain ⟨_,_,_,z,_⟩:=I;rw [e,z] at hD;cases hD
   refine ZfQ (Qw (show B.toNat<=1000 by omega) (ZfL (Qg _)))
     (fun i ys H'=>∃ zs:List Str,ys=zs.map V.str/\zs.length=i/\(∀ z∈zs,∃ c,z=⟨#[c]⟩/\VQ c=true)/\H' Dl=some (.lst ys)/\BoxAt H' p (n+2+i)/\Kp p H1 H'/\i<=B.toNat)
     ⟨[],rfl,rfl,(fun _ h=>nomatch h),Zh,I.same (Zm hD _),k2.trans ((Zm hD _).kp p),QF _⟩ ?_ ?_ ?_
   · rintro i ys H' ⟨zs,rfl,hz,_⟩;rw [length_map];exact hz
   · rintro i ys H' hi ⟨zs,rfl,hz,S,Y,B',k',_⟩
     refine ⟨_,rfl,_,rfl,_,rfl,_,94,rfl,⟨by rw [vs_len];decide,vs_len.symm⟩,p,n+2+i,94,rfl,B',by omega,by decide,by decide,fun r3 H3 d0 d1 B3 k3=>?_⟩
     have J:vSigns.cps.toList.length=94:=by rw [<- Ym];exact vs_len
     obtain ⟨c,hc,hm⟩:=Zbp (xs:=vSigns.cps.toList) d0 (by rw [J];exact d1)
     refine ⟨vSigns,r3,c,rfl,rfl,(by rw [vs_len];decide),hc,k3 Dl _ G Y,zs++[⟨#[c]⟩],by rw [map_append];rfl,by rw [length_append,hz];rfl,?_,Zh,?_,fun b o nb e=>?_,hi⟩
     · intro z hz'
       rcases mem_append.mp hz' with h | h
       · exact S z h
       · rw [mem_singleton.mp h];exact ⟨c,rfl,all_eq_true.mp ZkS c hm⟩
     · obtain ⟨x1,x2,x3,x4,x5⟩:=B3
       exact ⟨x1,x2,x3,by rw [Zi G.symm];exact x4,x5⟩
     · rw [Zi (Zp (k2 b o nb e) hD)];exact k3 b o nb (k' b o nb e)
   · rintro ys H' ⟨zs,rfl,hz,S,Y,B',k',_⟩
     have ones:∀ l:List Str,(∀ z∈l,∃ c,z=⟨#[c]⟩/\VQ c=true)->(l.map (·.length)).sum=l.length/\(l.flatMap (·.cps.toList)).length=l.length/\(l.flatMap (·.cps.toList)).all VQ=true:=by
       intro l
       induction l with
       | nil=>intro _;exact ⟨rfl,rfl,rfl⟩
       | cons z r ih =>
         intro h
         obtain ⟨c,rfl,hc⟩:=h z mem_cons_self
         obtain ⟨g1,g2,g3⟩:=ih fun y hy=>h y (mem_cons_of_mem _ hy)
         refine ⟨?_,?_,?_⟩
         · rw [map_cons,List.sum_cons,g1,length_cons];show 1+_=_;omega
         · have e0:((⟨#[c]⟩:Str)::r).flatMap (·.cps.toList)=c::r.flatMap (·.cps.toList):=rfl
           rw [e0,length_cons,length_cons,g2]
         · rw [Ti,Sy,g3];simp [hc]
     obtain ⟨g1,g2,g3⟩:=ones zs S
     refine ⟨_,Dl,zs,rfl,rfl,SqL.of Y,?_,q _ _ ⟨?_,?_⟩ (B'.le (by omega)) (k1.trans k')⟩
     · rw [g1];show _+_ * 0<=_;omega
     · rw [Ym];show (Txt.join (QI "") zs).cps.toList.length<=40;rw [WH,g2];omega
     · show (Txt.join (QI "") zs).cps.toList.all VQ=true;rw [WH];exact g3
 refine ⟨_,rfl,_,rfl,rfl,_,rfl,Wj (fun c4=>?_) (fun c4=>?_)⟩
 · exact ⟨p,n+1,4,rfl,W,by omega,by decide,by decide,fun B H2 b0 b1 I k2=>fin B H2 b0 (by omega) I k2⟩
 · exact ⟨p,n+1,41,rfl,W,by omega,by decide,by decide,fun B H2 b0 b1 I k2=>fin B H2 b0 (by omega) I k2⟩
end
section
variable {P:Qj}{w:Qr}{K:Qa}{mg:Str->Option Qb}{base:Heap}
theorem scXi:Zo ["self","what"] ["self","what"] (Zj c_RoadError___init__):=⟨rfl,rfl,rfl,by decide +kernel,rfl,by decide +kernel,by decide +kernel⟩
theorem ZdC {f:Addr}{fd:Qi}(F:Fun K "__init__" "RoadError.__init__" c_RoadError___init__ f fd):FnOk P w K mg base ZH 1 f fd ["self","what"] (ZhB K):=by
 refine F.ok scXi (fun vs H Q E h=>?_) (fun I A outer s H vs Q E J h=>?_)
 ·obtain ⟨ea,C,B,v,rfl,_⟩:=h;rfl
 obtain ⟨ea,C,B,v,rfl,z,G,q⟩:=h
 refine' ⟨?t,?h,?r⟩
 case h =>
  conv=>arg 2;whnf
  with_reducible refine' (Zf ?h1)
  case h1=>exact Zkj (pv 0) (pv 1) rfl
 exact ⟨_,rfl,_,rfl,ea,C,B,rfl,z,G,fun dx h1 h2=>q dx h1 h2⟩
end
end K23
namespace K23
open PySem L2
open PySem.W in
theorem all_mk {l:Sx}{w:Qr}{K:Qa}{h:Heap}{mg:Str->Option Qb}{fa:Addr}
 {f_z0 f_z1 f_z2 f_z3 f_z4 f_z5 f_z6 f_z7 f_z8 f_z9 f_z10 f_z11 f_z12 f_z13 f_z14 f_z15 f_z16 f_z17 f_z18 f_z19 f_z20 f_z21 f_z22 f_z23 f_z24 f_z25 f_z26 f_z27 f_z28 f_z29 f_z30 f_z31 f_z32 f_z33 f_z34 f_z35 f_z36 f_z37 f_z38 f_z39 f_z40 f_z41 f_z42 f_z43 f_z44 f_z45 f_z46 f_z47 f_z48 f_z49 f_z50 f_z51 f_z52 f_z53 f_z54 f_z55 f_z56 f_z57 f_z58 f_z59 f_z60 C_Store C_Roads C_RoadError C_NoPlace C_AtHome C_BadRow C_Busy C_Elsewhere C_Known C_Missing C_NoNode C_NoSetting C_NoTable C_NoTask C_NoToken C_NotBehind C_NoWatcher C_NoWorld C_OutOfTurn C_Used ca_z3 ca_z22 P_z3 P_z22:Addr} {d_z0 d_z1 d_z2 d_z3 d_z4 d_z5 d_z6 d_z7 d_z8 d_z9 d_z10 d_z11 d_z12 d_z13 d_z14 d_z15 d_z16 d_z17 d_z18 d_z19 d_z20 d_z21 d_z22 d_z23 d_z24 d_z25 d_z26 d_z27 d_z28 d_z29 d_z30 d_z31 d_z32 d_z33 d_z34 d_z35 d_z36 d_z37 d_z38 d_z39 d_z40 d_z41 d_z42 d_z43 d_z44 d_z45 d_z46 d_z47 d_z48 d_z49 d_z50 d_z51 d_z52 d_z53 d_z54 d_z55 d_z56 d_z57 d_z58 d_z59 d_z60:Qi} (X:K.In h) (G:h.Ns Qk mg) (hfa:mg "law"=some (.ref fa))
 (ch_Store:CH K "Store" C_Store)
 (na_Store_nodes:QA K (.ref C_Store) "nodes"=some none)
 (na_Store_tables:QA K (.ref C_Store) "tables"=some none)
 (ch_Roads:CH K "Roads" C_Roads)
 (na_Roads_kept:QA K (.ref C_Roads) "kept"=some none)
 (na_Roads_aheads:QA K (.ref C_Roads) "aheads"=some none)
 (na_Roads_steps:QA K (.ref C_Roads) "steps"=some none)
 (na_Roads_tables:QA K (.ref C_Roads) "tables"=some none)
 (na_Roads_costs:QA K (.ref C_Roads) "costs"=some none)
 (gx_RoadError:Qm K Qk "RoadError"=some (some (.ref C_RoadError)))
 (gx_NoPlace:Qm K Qk "NoPlace"=some (some (.ref C_NoPlace)))
 (gx_AtHome:Qm K Qk "AtHome"=some (some (.ref C_AtHome)))
 (gx_BadRow:Qm K Qk "BadRow"=some (some (.ref C_BadRow)))
 (gx_Busy:Qm K Qk "Busy"=some (some (.ref C_Busy)))
 (gx_Elsewhere:Qm K Qk "Elsewhere"=some (some (.ref C_Elsewhere)))
 (gx_Known:Qm K Qk "Known"=some (some (.ref C_Known)))
 (gx_Missing:Qm K Qk "Missing"=some (some (.ref C_Missing)))
 (gx_NoNode:Qm K Qk "NoNode"=some (some (.ref C_NoNode)))
 (gx_NoSetting:Qm K Qk "NoSetting"=some (some (.ref C_NoSetting)))
 (gx_NoTable:Qm K Qk "NoTable"=some (some (.ref C_NoTable)))
 (gx_NoTask:Qm K Qk "NoTask"=some (some (.ref C_NoTask)))
 (gx_NoToken:Qm K Qk "NoToken"=some (some (.ref C_NoToken)))
 (gx_NotBehind:Qm K Qk "NotBehind"=some (some (.ref C_NotBehind)))
 (gx_NoWatcher:Qm K Qk "NoWatcher"=some (some (.ref C_NoWatcher)))
 (gx_NoWorld:Qm K Qk "NoWorld"=some (some (.ref C_NoWorld)))
 (gx_OutOfTurn:Qm K Qk "OutOfTurn"=some (some (.ref C_OutOfTurn)))
 (gx_Used:Qm K Qk "Used"=some (some (.ref C_Used)))
 (h_z0:FG K "alike" s_alike f_z0 d_z0)
 (h_z1:FG K "mark" s_mark f_z1 d_z1)
 (h_z2:FG K "digit" s_digit f_z2 d_z2)
 (h_z3:FGC K "leaf_of" s_leaf_of f_z3 d_z3 ca_z3 P_z3)
 (h_z4:FG K "fork_of" s_fork_of f_z4 d_z4)
 (h_z5:FG K "parts_in" s_parts_in f_z5 d_z5)
 (h_z6:FG K "pairs_in" s_pairs_in f_z6 d_z6)
 (h_z7:FG K "has_mark" s_has_mark f_z7 d_z7)
 (h_z8:FM K C_RoadError "__init__" "RoadError.__init__" c_RoadError___init__ f_z8 d_z8)
 (h_z9:FM K C_Store "__init__" "Store.__init__" c_Store___init__ f_z9 d_z9)
 (h_z10:FM K C_Store "empty" "Store.empty" c_Store_empty f_z10 d_z10)
 (h_z11:FM K C_Store "check_table" "Store.check_table" c_Store_check_table f_z11 d_z11)
 (h_z12:FM K C_Store "keep" "Store.keep" c_Store_keep f_z12 d_z12)
 (h_z13:FM K C_Store "as_table" "Store.as_table" c_Store_as_table f_z13 d_z13)
 (h_z14:FM K C_Store "way" "Store.way" c_Store_way f_z14 d_z14)
 (h_z15:FM K C_Store "looked" "Store.looked" c_Store_looked f_z15 d_z15)
 (h_z16:FM K C_Store "fork_parts" "Store.fork_parts" c_Store_fork_parts f_z16 d_z16)
 (h_z17:FM K C_Store "put_in" "Store.put_in" c_Store_put_in f_z17 d_z17)
 (h_z18:FM K C_Store "put" "Store.put" c_Store_put f_z18 d_z18)
 (h_z19:FM K C_Store "taken_from" "Store.taken_from" c_Store_taken_from f_z19 d_z19)
 (h_z20:FM K C_Store "without" "Store.without" c_Store_without f_z20 d_z20)
 (h_z21:FM K C_Store "pairs_below" "Store.pairs_below" c_Store_pairs_below f_z21 d_z21)
 (h_z22:FMC K C_Store "pairs" "Store.pairs" c_Store_pairs f_z22 d_z22 ca_z22 P_z22)
 (h_z23:FM K C_Store "made" "Store.made" c_Store_made f_z23 d_z23)
 (h_z24:FG K "differing" s_differing f_z24 d_z24)
 (h_z25:FM K C_Roads "check_place" "Roads.check_place" c_Roads_check_place f_z25 d_z25)
 (h_z26:FM K C_Roads "table" "Roads.table" c_Roads_table f_z26 d_z26)
 (h_z27:FM K C_Roads "ahead" "Roads.ahead" c_Roads_ahead f_z27 d_z27)
 (h_z28:FM K C_Roads "step" "Roads.step" c_Roads_step f_z28 d_z28)
 (h_z29:FM K C_Roads "cost" "Roads.cost" c_Roads_cost f_z29 d_z29)
 (h_z30:FM K C_Roads "road" "Roads.road" c_Roads_road f_z30 d_z30)
 (h_z31:FM K C_Roads "length" "Roads.length" c_Roads_length f_z31 d_z31)
 (h_z32:FM K C_Roads "step_has" "Roads.step_has" c_Roads_step_has f_z32 d_z32)
 (h_z33:FM K C_Roads "last" "Roads.last" c_Roads_last f_z33 d_z33)
 (h_z34:FM K C_Roads "walked" "Roads.walked" c_Roads_walked f_z34 d_z34)
 (h_z35:FM K C_Roads "looked" "Roads.looked" c_Roads_looked f_z35 d_z35)
 (h_z36:FM K C_Roads "all_at" "Roads.all_at" c_Roads_all_at f_z36 d_z36)
 (h_z37:FM K C_Roads "go_on" "Roads.go_on" c_Roads_go_on f_z37 d_z37)
 (h_z38:FM K C_Roads "put" "Roads.put" c_Roads_put f_z38 d_z38)
 (h_z39:FM K C_Roads "clear" "Roads.clear" c_Roads_clear f_z39 d_z39)
 (h_z40:FM K C_Roads "meeting" "Roads.meeting" c_Roads_meeting f_z40 d_z40)
 (h_z41:FM K C_Roads "between" "Roads.between" c_Roads_between f_z41 d_z41)
 (h_z42:FM K C_Roads "unlike" "Roads.unlike" c_Roads_unlike f_z42 d_z42)
 (h_z43:FM K C_Roads "places" "Roads.places" c_Roads_places f_z43 d_z43)
 (h_z44:FM K C_Roads "store" "Roads.store" c_Roads_store f_z44 d_z44)
 (h_z45:FM K C_Roads "__init__" "Roads.__init__" c_Roads___init__ f_z45 d_z45)
 (h_z46:FG K "_law_cell_at" s_l_cell_at f_z46 d_z46)
 (h_z47:FG K "_law_box" s_l_box f_z47 d_z47)
 (h_z48:FG K "_law_take" s_l_take f_z48 d_z48)
 (h_z49:FG K "_law_names" s_l_names f_z49 d_z49)
 (h_z50:FG K "_law_value" s_l_value f_z50 d_z50)
 (h_z51:FG K "_law_pool" s_l_pool f_z51 d_z51)
 (h_z52:FG K "_law_values" s_l_values f_z52 d_z52)
 (h_z53:FG K "_law_step" s_l_step f_z53 d_z53)
 (h_z54:FG K "_law_from" s_l_from f_z54 d_z54)
 (h_z55:FG K "_law_grown" s_l_grown f_z55 d_z55)
 (h_z56:FG K "_law_others" s_l_others f_z56 d_z56)
 (h_z57:FG K "_law_refused" s_l_refused f_z57 d_z57)
 (h_z58:FG K "_law_stand" s_l_stand f_z58 d_z58)
 (h_z59:FG K "_law_right" s_l_right f_z59 d_z59)
 (h_z60:FG K "law" s_law f_z60 d_z60)
 (z_len:Qm K Qk "len"=some none)
 (z_abs:Qm K Qk "abs"=some none)
 (z_int:Qm K Qk "int"=some none)
 (z_range:Qm K Qk "range"=some none)
 (z_min:Qm K Qk "min"=some none)
 (z_max:Qm K Qk "max"=some none)
 (z_repr:Qm K Qk "repr"=some none)
 (z_enumerate:Qm K Qk "enumerate"=some none)
 (z_ord:Qm K Qk "ord"=some none)
 (z_list:Qm K Qk "list"=some none)
 (z_tuple:Qm K Qk "tuple"=some none)
 (z_dict:Qm K Qk "dict"=some none)
 (z_sorted:Qm K Qk "sorted"=some none)
 (z_sum:Qm K Qk "sum"=some none)
 (z_all:Qm K Qk "all"=some none)
 (z_any:Qm K Qk "any"=some none)
 (z_divmod:Qm K Qk "divmod"=some none)
 (z_str:Qm K Qk "str"=some none)
 (z_isinstance:Qm K Qk "isinstance"=some none)
 (z_set:Qm K Qk "set"=some none)
 (z_zip:Qm K Qk "zip"=some none)
 (z_reversed:Qm K Qk "reversed"=some none)
 (z_bool:Qm K Qk "bool"=some none)
 {tb:Tok}
 (gBASE:Qm K Qk "BASE"=some (some (.int 4 tb)))
 {tz:Tok}
 (gZERO:Qm K Qk "BARE_NUMBER"=some (some (.int 0 tz)))
 {ab:Addr}
 (gBARE:Qm K Qk "BARE"=some (some (.ref ab)))
 (tBARE:Zct K ab [.str "bare"]=true)
 {af:Addr}
 (gFIG:Qm K Qk "FIGURES"=some (some (.ref af)))
 (tFIG:Zct K af [.int 0,.int 1,.int 2,.int 3]=true)
 (zVE:Qm K Qk "ValueError"=some none)
 (x_NoPlace:Zci K C_RoadError C_NoPlace f_z8 [C_NoPlace] [C_AtHome,C_BadRow,C_Busy,C_Elsewhere,C_Known,C_Missing,C_NoNode,C_NoSetting,C_NoTable,C_NoTask] [C_NoToken,C_NotBehind,C_NoWatcher,C_NoWorld,C_OutOfTurn,C_Used] 0=true)
 (x_NotBehind:Zci K C_RoadError C_NotBehind f_z8 [C_NoPlace] [] [] 1=true) :
 ∃ fd:Qi,(∀ (s:Qd) (v:Qb),SZ s fd ⟨[v],[]⟩ [("_law_script",v)])/\∀ base:Heap,K.In base->base.Ns Qk mg->Ux base mg->FnOk l.prog w K mg base ZH 14 fa fd ["_law_script"] (Zcv K P_z3 P_z22):=by
 have e:=hfa.symm.trans (Gq X G h_z60.a)
 cases e
 have n_len:=QK X G z_len
 have n_abs:=QK X G z_abs
 have n_int:=QK X G z_int
 have n_range:=QK X G z_range
 have n_min:=QK X G z_min
 have n_max:=QK X G z_max
 have n_repr:=QK X G z_repr
 have n_enumerate:=QK X G z_enumerate
 have n_ord:=QK X G z_ord
 have n_list:=QK X G z_list
 have n_tuple:=QK X G z_tuple
 have n_dict:=QK X G z_dict
 have n_sorted:=QK X G z_sorted
 have n_sum:=QK X G z_sum
 have n_all:=QK X G z_all
 have n_any:=QK X G z_any
 have n_divmod:=QK X G z_divmod
 have n_str:=QK X G z_str
 have n_isinstance:=QK X G z_isinstance
 have n_set:=QK X G z_set
 have n_zip:=QK X G z_zip
 have n_reversed:=QK X G z_reversed
 have n_bool:=QK X G z_bool
 have g_gBASE:=Gq X G gBASE
 have g_gZERO:=Gq X G gZERO
 have g_gBARE:=Gq X G gBARE
 have g_gFIG:=Gq X G gFIG
 have g_RoadError:=Gq X G gx_RoadError
 have g_NoPlace:=Gq X G gx_NoPlace
 have g_AtHome:=Gq X G gx_AtHome
 have g_BadRow:=Gq X G gx_BadRow
 have g_Busy:=Gq X G gx_Busy
 have g_Elsewhere:=Gq X G gx_Elsewhere
 have g_Known:=Gq X G gx_Known
 have g_Missing:=Gq X G gx_Missing
 have g_NoNode:=Gq X G gx_NoNode
 have g_NoSetting:=Gq X G gx_NoSetting
 have g_NoTable:=Gq X G gx_NoTable
 have g_NoTask:=Gq X G gx_NoTask
 have g_NoToken:=Gq X G gx_NoToken
 have g_NotBehind:=Gq X G gx_NotBehind
 have g_NoWatcher:=Gq X G gx_NoWatcher
 have g_NoWorld:=Gq X G gx_NoWorld
 have g_OutOfTurn:=Gq X G gx_OutOfTurn
 have g_Used:=Gq X G gx_Used
 have cl_Store:=ch_Store.c
 have cl_Roads:=ch_Roads.c
 have TB:ZX mg:=⟨n_len,n_abs,n_int,n_range,n_min,n_max,n_repr,n_enumerate,n_ord,n_list,n_tuple,n_dict,n_sorted,n_sum,n_all,n_any,n_divmod,n_str,n_isinstance,n_set,n_zip,n_reversed,n_bool⟩
 have T:Txt K mg:=⟨TB,⟨_,g_gBASE⟩,⟨_,g_gZERO⟩,⟨_,g_gBARE,ZdD tBARE⟩,⟨_,g_gFIG,ZdD tFIG⟩⟩
 have TC:YG K C_Store:=⟨cl_Store,na_Store_nodes,na_Store_tables⟩
 have TR:Yi K C_Roads:=⟨cl_Roads,na_Roads_kept,na_Roads_aheads,na_Roads_steps,na_Roads_tables,na_Roads_costs⟩
 have n_VE:=QK X G zVE
 have TE:ZhQ K mg C_RoadError [C_NoPlace,C_AtHome,C_BadRow,C_Busy,C_Elsewhere,C_Known,C_Missing,C_NoNode,C_NoSetting,C_NoTable,C_NoTask,C_NoToken,C_NotBehind,C_NoWatcher,C_NoWorld,C_OutOfTurn,C_Used]:=ZjZ g_RoadError n_VE (by show [mg "NoPlace",mg "AtHome",mg "BadRow",mg "Busy",mg "Elsewhere",mg "Known",mg "Missing",mg "NoNode",mg "NoSetting",mg "NoTable",mg "NoTask",mg "NoToken",mg "NotBehind",mg "NoWatcher",mg "NoWorld",mg "OutOfTurn",mg "Used"]=_;rw [g_NoPlace,g_AtHome,g_BadRow,g_Busy,g_Elsewhere,g_Known,g_Missing,g_NoNode,g_NoSetting,g_NoTable,g_NoTask,g_NoToken,g_NotBehind,g_NoWatcher,g_NoWorld,g_OutOfTurn,g_Used];rfl)
 have rP:RKp K C_RoadError C_NoPlace [C_NoPlace,C_AtHome,C_BadRow,C_Busy,C_Elsewhere,C_Known,C_Missing,C_NoNode,C_NoSetting,C_NoTable,C_NoTask,C_NoToken,C_NotBehind,C_NoWatcher,C_NoWorld,C_OutOfTurn,C_Used]:=(Zdx x_NoPlace).1
 refine ⟨d_z60,fun s v=>Zhl h_z60.F (fun _ _ _ _ _ _ _=>rfl) s v,fun base _ _ hBm=>?_⟩
 have e:Bs l.prog w K mg base h:=⟨X,G⟩
 have D_z0:=h_z0.df e (Zib h_z0.F) (h_z0.F.b2 fun _ _ _ _ _ _ _ _=>rfl)
 have D_z1:=h_z1.df e (Zkw h_z1.F T) (h_z1.F.b1 fun _ _ _ _ _ _ _=>rfl)
 have D_z2:=h_z2.df e (ZhY h_z2.F T) (h_z2.F.b2 fun _ _ _ _ _ _ _ _=>rfl)
 have D_z3:=h_z3.df e (Zky h_z3.F T hBm D_z1) (h_z3.F.fn.b1 fun _ _ _ _ _ _ _=>rfl)
 have D_z4:=h_z4.df e (Zhe h_z4.F T) (h_z4.F.b1 fun _ _ _ _ _ _ _=>rfl)
 have D_z5:=h_z5.df e (Zhw h_z5.F) (h_z5.F.b1 fun _ _ _ _ _ _ _=>rfl)
 have D_z6:=h_z6.df e (ZiG h_z6.F) (h_z6.F.b1 fun _ _ _ _ _ _ _=>rfl)
 have D_z7:=h_z7.df e (ZkG h_z7.F) (h_z7.F.b2 fun _ _ _ _ _ _ _ _=>rfl)
 have b_z8:Binds K d_z8 ["self","what"] []:=h_z8.F.b2 fun _ _ _ _ _ _ _ _=>rfl
 have D_NoPlace:Zdn l.prog w K mg base 1 C_NoPlace "NoPlace":=⟨_,_,(ZdC h_z8.F).mono (by decide),b_z8,(Zdx x_NoPlace).2 h_z8.m.fn,g_NoPlace⟩
 have D_NotBehind:Zdn l.prog w K mg base 4 C_NotBehind "NotBehind":=⟨_,_,(ZdC h_z8.F).mono (by decide),b_z8,(Zdx x_NotBehind).2 h_z8.m.fn,g_NotBehind⟩
 have D_z9:=h_z9.di ch_Store e (FnOk.conv (sp':=Zbz K C_Store) (ZjY h_z9.F T TC) (fun _ _ _ _ h=>Zmh h)) (h_z9.F.b1 fun _ _ _ _ _ _ _=>rfl)
 have D_z10:=h_z10.df e (ZhE (C:=C_Store) h_z10.F T) (h_z10.F.b1 fun _ _ _ _ _ _ _=>rfl)
 have D_z11:=h_z11.df e (ZiO h_z11.F TC) (h_z11.F.b2 fun _ _ _ _ _ _ _ _=>rfl)
 have D_z12:=h_z12.df e (ZjV h_z12.F T TC) (h_z12.F.b2 fun _ _ _ _ _ _ _ _=>rfl)
 have D_z13:=h_z13.df e (Zlh h_z13.F TC) (h_z13.F.b2 fun _ _ _ _ _ _ _ _=>rfl)
 have D_z14:=h_z14.df e (ZlH h_z14.F T TC D_z11 D_z5 D_z1 D_z2) (h_z14.F.b3 fun _ _ _ _ _ _ _ _ _=>rfl)
 have b_z15:Binds K d_z15 ["self","table","name"] []:=h_z15.F.b3 fun _ _ _ _ _ _ _ _ _=>rfl
 have D_z15:DefM l.prog w K mg base 3 C_Store "looked" ["self","table","name"] (WW K C_Store):=⟨_,_,ZbG h_z15.F T TC D_z14 D_z6,b_z15,h_z15.m⟩
 have D_Store_lookS:DefM l.prog w K mg base 3 C_Store "looked" ["self","table","name"] (Zeq K C_Store):=⟨_,_,Zmo (ZbG h_z15.F T TC D_z14 D_z6),b_z15,h_z15.m⟩
 have N_looked:DefM l.prog w K mg base 4 C_Store "looked" ["self","table","name"] XE:=⟨_,_,FnOk.no,b_z15,h_z15.m⟩
 have D_z16:=h_z16.df e (ZmM h_z16.F T TC D_z5 D_z6 D_z1 D_z2) (h_z16.F.b3 fun _ _ _ _ _ _ _ _ _=>rfl)
 have b_z17:Binds K d_z17 ["self","number","level","name","value"] []:=h_z17.F.b5 fun _ _ _ _ _ _ _ _ _ _ _=>rfl
 have D_z17:∀ NS,Yj NS->DefM l.prog w K mg base 8 C_Store "put_in" nPi (Vn K C_Store P_z3 NS 6):=fun NS N=>⟨_,_,ZeP N h_z17.F T TC D_z7 D_z6 D_z1 D_z2 D_z3 D_z4 D_z12 D_z16 b_z17 h_z17.m 6,b_z17,h_z17.m⟩
 have b_z18:Binds K d_z18 ["self","table","name","value"] []:=h_z18.F.b4 fun _ _ _ _ _ _ _ _ _ _=>rfl
 have D_z18:DefM l.prog w K mg base 9 C_Store "put" ["self","table","name","value"] (Zdk K C_Store P_z3):=⟨_,_,Znf fun NS N=>Zlf N h_z18.F TC D_z0 D_z15 D_z13 (D_z17 NS N),b_z18,h_z18.m⟩
 have N_put:DefM l.prog w K mg base 4 C_Store "put" ["self","table","name","value"] XE:=⟨_,_,FnOk.no,b_z18,h_z18.m⟩
 have b_z19:Binds K d_z19 ["self","number","level","name"] []:=h_z19.F.b4 fun _ _ _ _ _ _ _ _ _ _=>rfl
 have D_z19:∀ NS,Yj NS->DefM l.prog w K mg base 8 C_Store "taken_from" nTk (ZaZ K C_Store P_z3 NS 6):=fun NS N=>⟨_,_,Zei N h_z19.F T TC D_z7 D_z5 D_z6 D_z1 D_z2 D_z3 D_z4 D_z12 b_z19 h_z19.m 6,b_z19,h_z19.m⟩
 have b_z20:Binds K d_z20 ["self","table","name"] []:=h_z20.F.b3 fun _ _ _ _ _ _ _ _ _=>rfl
 have D_z20:DefM l.prog w K mg base 9 C_Store "without" ["self","table","name"] (ZeU K C_Store P_z3):=⟨_,_,wo_S fun NS N=>ZmB N h_z20.F TC D_z15 D_z13 (D_z19 NS N),b_z20,h_z20.m⟩
 have N_without:DefM l.prog w K mg base 4 C_Store "without" ["self","table","name"] XE:=⟨_,_,FnOk.no,b_z20,h_z20.m⟩
 have b_z21:Binds K d_z21 ["self","number"] []:=h_z21.F.b2 fun _ _ _ _ _ _ _ _=>rfl
 have D_z21:∀ NS,Yj NS->DefM l.prog w K mg base 7 C_Store "pairs_below" Zaj (Zdp K C_Store NS 6):=fun NS N=>⟨_,_,ZgI N h_z21.F T TC D_z6 D_z5 b_z21 h_z21.m 6,b_z21,h_z21.m⟩
 have b_z22:Binds K d_z22 ["self","table"] []:=h_z22.F.fn.b2 fun _ _ _ _ _ _ _ _=>rfl
 have D_Store_pairsM:∀ NS,Yj NS->DefM l.prog w K mg base 8 C_Store "pairs" ZdG (Zap K C_Store P_z22 NS):=fun NS N=>⟨_,_,ZbN N h_z22.F T TC hBm (D_z11.mono (by decide)) (D_z21 NS N),b_z22,h_z22.m⟩
 have D_z22:DefM l.prog w K mg base 8 C_Store "pairs" ZdG (Zaa K C_Store P_z22):=⟨_,_,Zkk fun NS N=>ZbN N h_z22.F T TC hBm (D_z11.mono (by decide)) (D_z21 NS N),b_z22,h_z22.m⟩
 have N_pairs:DefM l.prog w K mg base 4 C_Store "pairs" ["self","table"] XE:=⟨_,_,FnOk.no,b_z22,h_z22.m⟩
 have b_z23:Binds K d_z23 ["self"] []:=h_z23.F.b1 fun _ _ _ _ _ _ _=>rfl
 have D_z23:=h_z23.df e (ZjR h_z23.F T TC) b_z23
 have N_made:DefM l.prog w K mg base 4 C_Store "made" ["self"] XE:=⟨_,_,FnOk.no,b_z23,h_z23.m⟩
 have b_z24:Binds K d_z24 ["store","one","other"] []:=h_z24.F.b3 fun _ _ _ _ _ _ _ _ _=>rfl
 have N_differing:Def l.prog w K mg base 5 "differing" ["store","one","other"] XE:=⟨_,_,FnOk.no,b_z24,h_z24.F.kp,(Gq X G h_z24.a)⟩
 have b_z25:Binds K d_z25 ["self","place"] []:=h_z25.F.b2 fun _ _ _ _ _ _ _ _=>rfl
 have D_z25:DefM l.prog w K mg base 1 C_Roads "check_place" Xl (UO K C_Roads C_Store):=⟨_,_,ZeE h_z25.F TB TR,b_z25,h_z25.m⟩
 have B_check_place:DefMX l.prog w K mg base 3 C_Roads "check_place" Xl (Zw K C_Roads C_Store C_NoPlace 0):=⟨_,_,ZeF h_z25.F TB TR D_NoPlace,b_z25,h_z25.m⟩
 have X_check_place:DefMX l.prog w K mg base 5 C_Roads "check_place" Xl (orS (UO K C_Roads C_Store) (Zw K C_Roads C_Store C_NoPlace 0)):=⟨_,_,FnOk.or (((ZeE h_z25.F TB TR).mono (by decide)).lift) ((ZeF h_z25.F TB TR D_NoPlace).mono (by decide)),b_z25,h_z25.m⟩
 have b_z26:Binds K d_z26 ["self","place"] []:=h_z26.F.b2 fun _ _ _ _ _ _ _ _=>rfl
 have D_z26:DefM l.prog w K mg base 2 C_Roads "table" Xm (Wo K C_Roads C_Store):=⟨_,_,ZcM h_z26.F TB TR D_z25,b_z26,h_z26.m⟩
 have B_table:DefMX l.prog w K mg base 4 C_Roads "table" Xm (Zw K C_Roads C_Store C_NoPlace 0):=⟨_,_,ZbV h_z26.F TB TR B_check_place,b_z26,h_z26.m⟩
 have X_table:DefMX l.prog w K mg base 5 C_Roads "table" Xm (orS (Wo K C_Roads C_Store) (Zw K C_Roads C_Store C_NoPlace 0)):=⟨_,_,FnOk.or (((ZcM h_z26.F TB TR D_z25).mono (by decide)).lift) ((ZbV h_z26.F TB TR B_check_place).mono (by decide)),b_z26,h_z26.m⟩
 have b_z27:Binds K d_z27 ["self","place"] []:=h_z27.F.b2 fun _ _ _ _ _ _ _ _=>rfl
 have D_z27:DefM l.prog w K mg base 2 C_Roads "ahead" Wv (Zbk K C_Roads C_Store):=⟨_,_,Zhr h_z27.F TB TR D_z25,b_z27,h_z27.m⟩
 have B_ahead:DefMX l.prog w K mg base 4 C_Roads "ahead" Wv (Zw K C_Roads C_Store C_NoPlace 0):=⟨_,_,Zgy h_z27.F TB TR B_check_place,b_z27,h_z27.m⟩
 have N_ahead:DefM l.prog w K mg base 5 C_Roads "ahead" Wv XE:=⟨_,_,FnOk.no,b_z27,h_z27.m⟩
 have b_z28:Binds K d_z28 ["self","place"] []:=h_z28.F.b2 fun _ _ _ _ _ _ _ _=>rfl
 have D_z28:DefM l.prog w K mg base 2 C_Roads "step" Uo (Zbu K C_Roads C_Store):=⟨_,_,Zih h_z28.F TB TR D_z25,b_z28,h_z28.m⟩
 have B_step:DefMX l.prog w K mg base 4 C_Roads "step" Uo (Zw K C_Roads C_Store C_NoPlace 0):=⟨_,_,ZhJ h_z28.F TB TR B_check_place,b_z28,h_z28.m⟩
 have b_z29:Binds K d_z29 ["self","place"] []:=h_z29.F.b2 fun _ _ _ _ _ _ _ _=>rfl
 have B_cost:DefMX l.prog w K mg base 4 C_Roads "cost" Zch (Zw K C_Roads C_Store C_NoPlace 0):=⟨_,_,ZhW h_z29.F TB TR B_check_place,b_z29,h_z29.m⟩
 have b_z30:Binds K d_z30 ["self","place"] []:=h_z30.F.b2 fun _ _ _ _ _ _ _ _=>rfl
 have D_z30:DefM l.prog w K mg base 3 C_Roads "road" Wa (UC K C_Roads C_Store):=⟨_,_,ZcI h_z30.F TB TR D_z27,b_z30,h_z30.m⟩
 have B_road:DefMX l.prog w K mg base 5 C_Roads "road" Wa (Zw K C_Roads C_Store C_NoPlace 0):=⟨_,_,ZdS h_z30.F TB TR B_ahead,b_z30,h_z30.m⟩
 have X_road:DefMX l.prog w K mg base 5 C_Roads "road" Wa (orS (UC K C_Roads C_Store) (Zw K C_Roads C_Store C_NoPlace 0)):=⟨_,_,FnOk.or (((ZcI h_z30.F TB TR D_z27).mono (by decide)).lift) ((ZdS h_z30.F TB TR B_ahead).mono (by decide)),b_z30,h_z30.m⟩
 have b_z31:Binds K d_z31 ["self","place"] []:=h_z31.F.b2 fun _ _ _ _ _ _ _ _=>rfl
 have B_length:DefMX l.prog w K mg base 6 C_Roads "length" Zco (Zw K C_Roads C_Store C_NoPlace 0):=⟨_,_,Zfc h_z31.F TB TR B_road,b_z31,h_z31.m⟩
 have b_z32:Binds K d_z32 ["self","place","name"] []:=h_z32.F.b3 fun _ _ _ _ _ _ _ _ _=>rfl
 have B_step_has:DefMX l.prog w K mg base 5 C_Roads "step_has" Zcg (Zw K C_Roads C_Store C_NoPlace 1):=⟨_,_,Zkb h_z32.F TB TR B_step,b_z32,h_z32.m⟩
 have b_z33:Binds K d_z33 ["self","place","name"] []:=h_z33.F.b3 fun _ _ _ _ _ _ _ _ _=>rfl
 have B_last:DefMX l.prog w K mg base 6 C_Roads "last" Zax (Zw K C_Roads C_Store C_NoPlace 1):=⟨_,_,Zhu h_z33.F TB TR N_ahead B_step_has,b_z33,h_z33.m⟩
 have b_z34:Binds K d_z34 ["self","place","name"] []:=h_z34.F.b3 fun _ _ _ _ _ _ _ _ _=>rfl
 have B_walked:DefMX l.prog w K mg base 7 C_Roads "walked" Zcu (Zw K C_Roads C_Store C_NoPlace 1):=⟨_,_,ZfD h_z34.F TB TR B_last,b_z34,h_z34.m⟩
 have b_z35:Binds K d_z35 ["self","place","name"] []:=h_z35.F.b3 fun _ _ _ _ _ _ _ _ _=>rfl
 have B_looked:DefMX l.prog w K mg base 5 C_Roads "looked" Zcl (Zw K C_Roads C_Store C_NoPlace 1):=⟨_,_,Zfk h_z35.F TB TR TC N_looked B_table,b_z35,h_z35.m⟩
 have b_z36:Binds K d_z36 ["self","place"] []:=h_z36.F.b2 fun _ _ _ _ _ _ _ _=>rfl
 have D_z36:DefM l.prog w K mg base 10 C_Roads "all_at" Ve (Zfx K C_Roads C_Store P_z22):=⟨_,_,ZlV h_z36.F TB TR TC (D_z26.mono (by decide)) (D_z22.mono (by decide)),b_z36,h_z36.m⟩
 have B_all_at:DefMX l.prog w K mg base 5 C_Roads "all_at" Ve (Zw K C_Roads C_Store C_NoPlace 0):=⟨_,_,Zkx h_z36.F TB TR TC N_pairs B_table,b_z36,h_z36.m⟩
 have b_z37:Binds K d_z37 ["self","place","step"] []:=h_z37.F.b3 fun _ _ _ _ _ _ _ _ _=>rfl
 have D_z37:DefM l.prog w K mg base 10 C_Roads "go_on" WK (ZfB K C_Roads C_Store P_z3):=⟨_,_,Zke h_z37.F TB TR TC (D_z26.mono (by decide)) (D_z23.mono (by decide)) D_z18 D_z20,b_z37,h_z37.m⟩
 have B_go_on:DefMX l.prog w K mg base 5 C_Roads "go_on" WK (Zw K C_Roads C_Store C_NoPlace 1):=⟨_,_,Zmq h_z37.F TB TR TC N_made N_put N_without B_table,b_z37,h_z37.m⟩
 have b_z38:Binds K d_z38 ["self","place","name","value"] []:=h_z38.F.b4 fun _ _ _ _ _ _ _ _ _ _=>rfl
 have D_z38:DefM l.prog w K mg base 11 C_Roads "put" Vd (ZcC K C_Roads C_Store P_z3):=⟨_,_,ZkE h_z38.F TB TR D_z37,b_z38,h_z38.m⟩
 have B_put:DefMX l.prog w K mg base 6 C_Roads "put" Vd (Zw K C_Roads C_Store C_NoPlace 2):=⟨_,_,ZjO h_z38.F TB TR B_go_on,b_z38,h_z38.m⟩
 have b_z39:Binds K d_z39 ["self","place","name"] []:=h_z39.F.b3 fun _ _ _ _ _ _ _ _ _=>rfl
 have D_z39:DefM l.prog w K mg base 11 C_Roads "clear" UP (ZdE K C_Roads C_Store P_z3):=⟨_,_,ZjE h_z39.F TB TR D_z37,b_z39,h_z39.m⟩
 have B_clear:DefMX l.prog w K mg base 6 C_Roads "clear" UP (Zw K C_Roads C_Store C_NoPlace 1):=⟨_,_,Zki h_z39.F TB TR B_go_on,b_z39,h_z39.m⟩
 have b_z40:Binds K d_z40 ["self","one","other"] []:=h_z40.F.b3 fun _ _ _ _ _ _ _ _ _=>rfl
 have B_meeting:DefMX l.prog w K mg base 6 C_Roads "meeting" Zcp (XY K C_Roads C_Store C_NoPlace):=⟨_,_,ZhS h_z40.F TB TR X_road,b_z40,h_z40.m⟩
 have b_z41:Binds K d_z41 ["self","early","late"] []:=h_z41.F.b3 fun _ _ _ _ _ _ _ _ _=>rfl
 have B_between:DefMX l.prog w K mg base 6 C_Roads "between" Zcq (XY K C_Roads C_Store C_NoPlace):=⟨_,_,Zka h_z41.F TB TR X_check_place B_road D_NotBehind,b_z41,h_z41.m⟩
 have b_z42:Binds K d_z42 ["self","one","other"] []:=h_z42.F.b3 fun _ _ _ _ _ _ _ _ _=>rfl
 have B_unlike:DefMX l.prog w K mg base 6 C_Roads "unlike" Zcx (XY K C_Roads C_Store C_NoPlace):=⟨_,_,Zkg h_z42.F TB TR X_table N_differing,b_z42,h_z42.m⟩
 have D_z43:=h_z43.df e (ZgP (CS:=C_Store) h_z43.F TB TR) (h_z43.F.b1 fun _ _ _ _ _ _ _=>rfl)
 have D_z44:=h_z44.df e (Zlo h_z44.F TB TR) (h_z44.F.b1 fun _ _ _ _ _ _ _=>rfl)
 have D_z45:=h_z45.di ch_Roads e ((ZiK h_z45.F TB TR TC D_z9 (D_z10.mono (by decide))).mono (show 3<=11 by decide)) (h_z45.F.b1 fun _ _ _ _ _ _ _=>rfl)
 have D_z46:=h_z46.df e (ZjM h_z46.F TB) (h_z46.F.b2 fun _ _ _ _ _ _ _ _=>rfl)
 have D_z47:=h_z47.df e (FnOk.conv (sp':=Zdd K) (Zme h_z47.F TB D_z46) (fun _ _ _ _ h=>Znj h)) (h_z47.F.b2 fun _ _ _ _ _ _ _ _=>rfl)
 have b_z48:Binds K d_z48 ["_law_box_here","_law_many"] []:=h_z48.F.b2 fun _ _ _ _ _ _ _ _=>rfl
 have DT0:Zjx l.prog w K mg base:=⟨_,_,ZjG h_z48.F,b_z48,h_z48.F.kp,(Gq X G h_z48.a)⟩
 have D_z48:DTk l.prog w K mg base 1:=DT0.conv fun _ _ _ _ h=>Zmt h
 have D_z49:=h_z49.df e (Ziq h_z49.F TB D_z48) (h_z49.F.b2 fun _ _ _ _ _ _ _ _=>rfl)
 have D_z50:=h_z50.df e (FnOk.conv (sp':=Zaq) (ZiS h_z50.F T DT0) (fun _ _ _ _ h=>ZjI h)) (h_z50.F.b1 fun _ _ _ _ _ _ _=>rfl)
 have D_z51:=h_z51.df e (ZjX h_z51.F TB D_z48 D_z49) (h_z51.F.b2 fun _ _ _ _ _ _ _ _=>rfl)
 have D_z52:=h_z52.df e (ZgY h_z52.F TB D_z50) (h_z52.F.b1 fun _ _ _ _ _ _ _=>rfl)
 have D_z53:=h_z53.df e (Zkm h_z53.F TB D_z48) (h_z53.F.b3 fun _ _ _ _ _ _ _ _ _=>rfl)
 have D_z54:=h_z54.df e (ZjL h_z54.F TB D_z48) (h_z54.F.b2 fun _ _ _ _ _ _ _ _=>rfl)
 have D_z55:=h_z55.df e (ZiH h_z55.F TB TR D_z38 D_z39) (h_z55.F.b4 fun _ _ _ _ _ _ _ _ _ _=>rfl)
 have b_z56:Binds K d_z56 ["_law_roads","_law_which","_law_one","_law_other"] []:=h_z56.F.b4 fun _ _ _ _ _ _ _ _ _ _=>rfl
 have D_z56:ZhN l.prog w K mg base 7 "_law_others" ZeW (Zfm K C_Roads C_Store C_NoPlace):=⟨_,_,ZkR h_z56.F TB TR (B_all_at.mono (by decide)) (B_cost.mono (by decide)) B_meeting B_between B_unlike,b_z56,h_z56.F.kp,(Gq X G h_z56.a)⟩
 have D_z57:=h_z57.df e (ZlK h_z57.F TB TR TE (B_put.mono (by decide)) (B_clear.mono (by decide)) (B_ahead.mono (by decide)) (B_step.mono (by decide)) (B_length.mono (by decide)) (X_road.mono (by decide)) (B_last.mono (by decide)) B_walked (B_table.mono (by decide)) (B_looked.mono (by decide)) D_z56 rP) (h_z57.F.b5 fun _ _ _ _ _ _ _ _ _ _ _=>rfl)
 have D_z58:=h_z58.df e (ZhF h_z58.F TB TR TC (D_z43.mono (by decide)) (D_z30.mono (by decide)) (D_z28.mono (by decide)) (D_z26.mono (by decide)) D_z36 (D_z44.mono (by decide)) (D_z23.mono (by decide))) (h_z58.F.b1 fun _ _ _ _ _ _ _=>rfl)
 have D_z59:=h_z59.df e (Zhy h_z59.F TB TR D_z48 (D_z51.mono (by decide)) (D_z52.mono (by decide)) D_z45 (D_z54.mono (by decide)) (D_z53.mono (by decide)) D_z55 (D_z58.mono (by decide)) (D_z57.mono (by decide))) (h_z59.F.b1 fun _ _ _ _ _ _ _=>rfl)
 exact ZlQ h_z60.F TB (D_z47.mono (by decide)) D_z59
theorem walk {l:Sx}{q:Qj}{loose:List Str}{XP:(Str->Option Qb)->Heap->Prop}{YP:Qr->Heap->Prop}{d:DefRec}{K:Params->Qa}{ts:List Addr}{P_z3 P_z22:Addr}(hn:l.most=some 63)(hdf:d.params.defaults=[])
 (hY:∀ (w:Qr) (h:Heap),YP w h->(K w.params).In h/\∀ b∈ts,h.get? b=some (PySem.W.tabObj #[]))
 (hK:∀ (w:Qr) (b:Addr),b∈ts->(K w.params).lookup b=none/\∃ c,PySem.W.codeHdIn (K w.params) c b=true)
 (hP_leaf_of:P_z3∈ts) (hP_Store_pairs:P_z22∈ts) (hne:P_z3≠P_z22) (F:∀ (w:Qr) (mg:Str->Option Qb) (fa:Addr) (h:Heap),(K w.params).In h->h.Ns Qk mg->mg d.name=some (.ref fa) ->
  ∃ fd:Qi,(∀ (s:Qd) (u:Qb),SZ s fd ⟨[u],[]⟩ [("_law_script",u)])/\∀ base:Heap,(K w.params).In base->base.Ns Qk mg->Ux base mg->FnOk l.prog w (K w.params) mg base ZH 14 fa fd ["_law_script"] (Zcv (K w.params) P_z3 P_z22)) :
 PySem.W.WalkO q loose XP YP l.row.toRowW d [] (fun f vs=>PySem.call f vs) :=
 L2.walk_ofT (n:=63) (k:=14) (x:="_law_script") (CX:=fun _=>ZH) (sp:=fun w=>Zcv (K w.params) P_z3 P_z22) (ts:=ts) hn (by decide) hdf ⟨rfl,by decide,by decide,rfl⟩ hY hK F (fun w H a ns hl hO hS hT=>⟨a,ns,rfl,hS,hl,.inl (hT _ hP_leaf_of),.inl (hT _ hP_Store_pairs),hne,fun _=>rfl⟩) fun _ _ _ _ _ z=>z
end K23
namespace PySem.W.Fast
def tw932928911978909581:=0
def tw14713173554843909924:=0
def tw2401420024918858452:=0
def tw1975822025387671041:=0
def tw12057075113088827943:=0
def tw5116884323213711969:=0
def tw5975159183037313863:=0
def tw18149292170456468032:=0
def tw10369943923655507747:=0
def tw5078331508338546044:=0
def tw12390460071374301006:=0
def tw3086081633359507128:=0
def tw7197925385593074671:=0
def tw10009616645056031933:=0
def tw14052945189535888569:=0
def tw10288835303326061957:=0
def tw17399500930950370400:=0
def tw641392033784816338:=0
def tw7649625289112474203:=0
def tw5757794807584142179:=0
def tw16137318612018355994:=0
def tw10188406614769581203:=0
def tw10973223395375535576:=0
def tw15812539493996230469:=0
def tw9134047451734408714:=0
def tw1047621012487021018:=0
def tw3882415825833483266:=0
def tw17818388446694983196:=0
def tw3568164928342766979:=0
def tw14265600685639708667:=0
def tw11985390751737240868:=0
def tw2931260541590155370:=0
def tw11837182886907960969:=0
def tw3776482432463738455:=0
def tw17231191632829029656:=0
def tw17258282901806181478:=0
def tw15408307305842363932:=0
def tw9616986997769335620:=0
def tw3244129748027632999:=0
def tw8890589842083951362:=0
def tw18097683216533031140:=0
def tw9156667774196523099:=0
def tw717929439994029442:=0
def tw3904853639062245042:=0
def tw11714299103482047451:=0
def tw4294595833343679325:=0
def tw2506428068776422405:=0
def tw1057116026450121969:=0
def tw7736565611158362650:=0
def tw12632274443870465056:=0
def tw6760459900490705691:=0
def tw19887400743909115:=0
def tw6368531614018722854:=0
def tw17939699920324845714:=0
def tw9089095375559947463:=0
def tw12459717471399651469:=0
def tw18411847225999024820:=0
def tw4097848362930506778:=0
def tw13943096936179652556:=0
def tw244301805828363668:=0
def tw8372780673471171522:=0
def tw9148993795720424339:=0
def tw16449962316528446632:=0
def tw16139357436703463435:=0
def tw13409405788473515620:=0
def tw6008480595505970993:=0
def tw9064838412540077316:=0
def tw17050955651800973978:=0
def tw10671142322638571964:=0
def tw11078866217030851923:=0
def tw4991092207728332018:=0
def tw5931864267805871931:=0
def tw6003316545618385164:=0
def tw2407260106775634911:=0
def tw10713967233603230810:=0
def tw17495304089296662981:=0
def tw17840071982413277410:=0
def tw7784877889444904903:=0
def tw15164307342908032595:=0
def tw8257024513287145641:=0
def tw4815980201472400502:=0
def tw15763030752738954630:=0
def tw10185625945815677661:=0
def tw4507964702726588600:=0
def tw1144568785429312817:=0
def tw6707868249805379010:=0
def tw16885893729163511162:=0
def tw4750256939680992663:=0
def tw2332165593966840898:=0
def tw991037453191730015:=0
def tw2483172774973893636:=0
def tw1246439836623328812:=0
def tw14372893881977419384:=0
def tw10333088986006606401:=0
def tw10816636771396154593:=0
def tw13996618605149879263:=0
def tw14020162794575878213:=0
def tw1386112810280650934:=0
def tw5764047335566380492:=0
def tw4735345160237339811:=0
def tw17770083201983253201:=0
def tw8966612424722411027:=0
def tw12594070205836058563:=0
def tw6708003062890684595:=0
def tw17493986315668009988:=0
def tw3249912253246775711:=0
def tw6663262134956153777:=0
def tw2157677987202079166:=0
def tw371952027615220573:=0
def tw16439678302672727533:=0
def tw16996824203128566673:=0
def tw13206558346968857159:=0
def tw12827425584089769669:=0
def tw5835303674422166981:=0
def tw3705859225072626479:=0
def tw187292584588030381:=0
def tw10294470635429974375:=0
def tw5824424152498085944:=0
def tw18154380159225492914:=0
def tw12314179111089305401:=0
def tw14575145377837594808:=0
def tw3856914957112274483:=0
def tw10340725619904118062:=0
def tw7357952100332910977:=0
def tw11072453422622224876:=0
def tw13649026947958457697:=0
def tw5505564399960094499:=0
def tw10617156497530491952:=0
def tw9050056470424960866:=0
def tw4985930551300154169:=0
def tw16388796896420345105:=0
def tw2830586633099961475:=0
def tw16194205025748586270:=0
def tw17105067004917453087:=0
def tw2660350424808416831:=0
def tw3685352643236484505:=0
def tw10482008893223463769:=0
def tw1827888695444150329:=0
def tw12525280633565854953:=0
def tw18437626398319954747:=0
def tw6405669471107616958:=0
def tw11944492617518121610:=0
def tw12653959464471352982:=0
def tw3880049169557433481:=0
def tw11261592768002507091:=0
def tw11766848039680389302:=0
def tw903464048836942774:=0
def tw4777043565245301273:=0
def tw12828561551149155338:=0
def tw3969412352186136935:=0
def tw107210202365685730:=0
def tw2775333297648411260:=0
def tw13362033285504545004:=0
def tw2127706852017529554:=0
def tw17055837337696286125:=0
def tw18178110537351879845:=0
def tw6512312362524712593:=0
def tw1512258550063197036:=0
def tw2999543068565267691:=0
def tw14498625024113628667:=0
def tw8872373568738239480:=0
def tw5327239841863114284:=0
def tw11070932783162152947:=0
def tw2042328538948771771:=0
def tw15099157071850617287:=0
def tw10184207666538606:=0
def tw5510750411570064984:=0
def tw6167427801768501474:=0
def tw1511814713603762326:=0
def tw14315290270158873268:=0
def tw13419082484728757557:=0
def tw5230726583886874785:=0
def tw12912326655077737511:=0
def tw2757593537078267509:=0
def tw17397878293456059915:=0
def tw13899191894169829595:=0
def tw17203067163237227837:=0
def tw4941520574020351786:=0
def tw2842327134976571534:=0
def tw15070927040336229598:=0
def tw1317191868276941900:=0
def tw12643931496768544735:=0
def tw14587321642123291180:=0
def tw4024174771531445179:=0
def tw8642573940029630361:=0
def tw2032822961770354125:=0
def tw5306931057713554321:=0
def tw8570752893632654950:=0
def tw3563314126151749649:=0
def tw1939885827349820138:=0
def tw3724218124347002188:=0
def tw3681987951990712469:=0
def tw17450094492322881481:=0
def tw585228104293785996:=0
def tw8377424595935242836:=0
def tw8643311190457573325:=0
def tw9172678263415443351:=0
def tw15071686339468163507:=0
def tw7663173289240023345:=0
def tw2870323009208584541:=0
def tw922707883491765960:=0
def tw10670280525791655891:=0
def tw17186056636122967473:=0
def tw9500876104450845077:=0
def tw6530652687525429651:=0
def tw5639047489777391971:=0
def tw5608269605569107345:=0
def tw5010741567252590820:=0
def tw4875426215531759242:=0
def tw4366789369946194110:=0
def tw3115744699415965509:=0
def tw2131711595694462014:=0
def tw17977787856778713271:=0
def tw15340488295946427392:=0
def tw15198955579074335650:=0
def tw13705882032965512415:=0
def tw13186878692873676488:=0
def tw1316882670668942808:=0
def tw12658513949967278419:=0
def tw6057579386425224006:=0
def tw11269949879417737524:=0
def tw5511320876920958020:=0
def tw7513680101874087447:=0
def tw2327723685145160384:=0
def tw2727820759143985811:=0
def tw16440910463106255215:=0
def tw6169091558613765397:=0
def tw1896687842403977688:=0
def tw12038445602498681343:=0
def tw17519349221008442597:=0
def tw6363808426052636561:=0
def tw5510818165817691736:=0
def tw3961368217975220109:=0
def tw2966761193225578808:=0
def tw1826387474006456679:=0
def tw14332970138076148567:=0
def tw12806734998313000949:=0
def tw12725802546195645917:=0
def tw10106972521265378816:=0
def tw17132692210393239906:=0
def tw384646941069520711:=0
def tw2278791287271700286:=0
def tw18427178045448855120:=0
def tw5807099862731416856:=0
def tw11768616914424604810:=0
def tw883389095516914237:=0
def tw14941443713660537817:=0
def tw5716346403691287505:=0
def tw11832991020860349715:=0
def tw9593917499846363273:=0
def tw7034935127221929430:=0
def tw13147454316351609562:=0
def tw9109755750432132615:=0
def tw4348759401059629271:=0
def tw2161820072063473857:=0
def tw18205235197979599545:=0
def tw17815485984444402808:=0
def tw1304576542022400409:=0
def tw7602613913588423870:=0
def tw6586755716274754163:=0
def tw6146486699369176558:=0
def tw2681432098315164120:=0
def tw12723826226878380126:=0
def tw11532593830132603793:=0
def tw10482460138283209474:=0
def tw8037640011754062240:=0
def tw3421083909225531755:=0
def tw15581898972843315718:=0
def tw1411052583467201527:=0
def tw8030590447554543067:=0
def tw9760888811504281531:=0
def tw948503178186024497:=0
def tw8441970507755783791:=0
def tw7805036547321038319:=0
def tw4181813281967584008:=0
def tw266446946815944838:=0
def tw2421752939014026437:=0
def tw18191596480727634163:=0
def tw16889982225872021802:=0
def tw16655088230629183255:=0
def tw16507591257386675221:=0
def tw1284954842695580241:=0
def tw12497501270706660861:=0
def tw12141197570867550440:=0
def tw11032068060978653052:=0
def tw10108130337880146645:=0
def tw14524404878316167024:=0
def tw11228142783753433502:=0
def tw9811146354758236721:=0
def tw4623326803845263562:=0
def tw17318037117204242301:=0
def tw16739622653846408438:=0
def tw14279341904360876983:=0
def tw10810526158316483233:=0
def tw1046404843325732917:=0
def tw17575474186083407689:=0
def tw16222682523445130031:=0
def tw14505188590777240534:=0
def tw5142744642194942494:=0
def tw4816256412677835786:=0
def tw16793624005245060832:=0
def tw9726566140235685148:=0
def tw4500027549061185432:=0
def tw2078957825107323999:=0
def tw15670549078559287987:=0
def tw15453150457916376193:=0
def tw15042516132184593282:=0
def tw11733045417437382222:=0
def tw6646023010852718718:=0
def tw15487166176234851317:=0
def tw13703809561928187372:=0
def tw2694264258233251770:=0
def tw12549920691231257131:=0
def tw10295442815582874839:=0
def tw9048257185043919179:=0
def tw9028457728887220494:=0
def tw8379104747577634556:=0
def tw8303809474396916132:=0
def tw8152052026538783764:=0
def tw7653881241617017398:=0
def tw7593269062532020160:=0
def tw6656968598265747616:=0
def tw6520910136016185407:=0
def tw6319620837570588480:=0
def tw6079316730682088580:=0
def tw5273929233974152387:=0
def tw3687661902163207492:=0
def tw3614481110854110870:=0
def tw3401709581303554669:=0
def tw3232806667109653433:=0
def tw3046970165521360653:=0
def tw2610608041212811094:=0
def tw2211606965035528387:=0
def tw1873337219331387993:=0
def tw18346986198741615116:=0
def tw17228188020820590346:=0
def tw16840235886313605696:=0
def tw16702181494022131247:=0
def tw15998081930689014283:=0
def tw15844912628793923871:=0
def tw15458379233274467627:=0
def tw15027151725978389258:=0
def tw14266631786484537612:=0
def tw12852060653323924491:=0
def tw11871267747676726235:=0
def tw11508583728942269112:=0
def tw4688054677103923517:=0
def tw3237334019660366914:=0
def tw2224472668093086006:=0
def tw9445032683340622576:=0
def tw9043480625920443592:=0
def tw6760734276019946445:=0
def tw6414957652855995085:=0
def tw1535660516512250955:=0
def tw12769710198565540296:=0
def tw1254555068519556626:=0
def tw811432141923434412:=0
def tw5441829154456918059:=0
def tw8934799242589373701:=0
def tw8021997711591673974:=0
def tw6461469842544117766:=0
def tw2428086477511500348:=0
def tw17803209220367467289:=0
def tw17053469091409250311:=0
def tw16671611753824422512:=0
def tw15311856194713815334:=0
def tw15254351296184907255:=0
def tw14689873578779186057:=0
def tw11497421240675360586:=0
def tw9427496387754714528:=0
def tw12150737897969918014:=0
def tw9647345893511648419:=0
def tw7884233695969210933:=0
def tw7874967963426510340:=0
def tw7873353093484279756:=0
def tw719625200273911057:=0
def tw695914509866517630:=0
def tw6639114267676900146:=0
def tw615575076664333757:=0
def tw6142999474972822637:=0
def tw4652833883299858285:=0
def tw445157879364049118:=0
def tw4132210989983435450:=0
def tw362683617223462964:=0
def tw2818797618989492823:=0
def tw2328092793724481059:=0
def tw18234688290138531751:=0
def tw17940783391996475469:=0
def tw1772831889602624149:=0
def tw16730633317013956620:=0
def tw16479153367510000032:=0
def tw16089831650374374252:=0
def tw14835560961603704587:=0
def tw13503534439088637083:=0
def tw1289362314587083365:=0
def tw12816165692577512649:=0
def tw12011820964405000385:=0
def tw11446811398001796406:=0
def tw10940445654939972408:=0
def tw10923375652802411585:=0
def tw10861138305209942780:=0
def tw10106000035577103150:=0
def tw12960256336927904248:=0
def tw1432044259530225443:=0
def tw15561760746944378510:=0
def tw14279321579070428360:=0
def tw14451845630140977164:=0
def tw8758780302981231947:=0
def tw16580370610348066187:=0
def tw1246473483534984466:=0
def tw9580317172267083155:=0
def tw8928142790827237933:=0
def tw8873018602350500551:=0
def tw7929848489972883657:=0
def tw7601136228299751202:=0
def tw7440546225615099582:=0
def tw6105655190959697050:=0
def tw4778639840311318419:=0
def tw4509661333407422495:=0
def tw4167310865438211127:=0
def tw3331146091795530287:=0
def tw18339752139629542372:=0
def tw17655155372481667798:=0
def tw16236698159167592377:=0
def tw1527821956086588050:=0
def tw1360952710224999412:=0
def tw6100816348522400911:=0
def tw15474875520428596749:=0
def tw9410845822199939456:=0
def tw8730544669449196308:=0
def tw6820329534296447102:=0
def tw6796944126739739526:=0
def tw6585897164381358404:=0
def tw15379248876347018601:=0
def tw14920731245931584432:=0
def tw1234674011205764602:=0
def tw11992016394791014047:=0
def tw11947264798011198026:=0
def tw11889523945644124838:=0
def tw11019021982369791290:=0
def tw10259212661303700522:=0
def tw17441763262997083492:=0
def tw11952168556416762089:=0
def tw5292544503631116289:=0
def tw3760885813247101484:=0
def tw10903197440400031320:=0
def tw6280983820799108281:=0
def tw9385332276670350850:=0
def tw6006743404779500770:=0
def tw9645470200038625854:=0
def tw7755575022225792681:=0
def tw7305931329034624463:=0
def tw7088285195362040244:=0
def tw5875511562940192148:=0
def tw5529820230354409052:=0
def tw3492664414377699822:=0
def tw3099272574193516315:=0
def tw304931018470753006:=0
def tw2534647532051387662:=0
def tw17942190925526812964:=0
def tw16920081829006322343:=0
def tw16510801953540261443:=0
def tw13659267031628091387:=0
def tw13310263858402268018:=0
def tw11125201986511069829:=0
def tw106547481088059748:=0
def tw10536444486143279726:=0
def tw2464764637985366156:=0
def tw16588800598536923160:=0
def tw9200922602316336585:=0
def tw7295312622431329055:=0
def tw7253295966714739320:=0
def tw6486565215705215988:=0
def tw611237942653038880:=0
def tw6025842766618675501:=0
def tw5939982077360363389:=0
def tw5726730483041105781:=0
def tw3981607106123521485:=0
def tw3779783321706837552:=0
def tw3463350208242465688:=0
def tw2869329243222565985:=0
def tw2865684579881023965:=0
def tw18376408576521252695:=0
def tw18265795243658281629:=0
def tw14662891868346709821:=0
def tw14047356629220601612:=0
def tw14025850817656970591:=0
def tw1275499553008134898:=0
def tw12469620512757150988:=0
def tw7512403592864657346:=0
def tw560218987870536044:=0
def tw4616756398504971156:=0
def tw3825320563104503842:=0
def tw17887683931751371901:=0
def tw17244030580640489345:=0
def tw14467824998184722322:=0
def tw11740688976824817670:=0
def tw11106286265610101004:=0
def tw41937553533050570:=0
def tw12154930013626078229:=0
def tw5520358949569250139:=0
def tw16099086157031730644:=0
def tw14515376230201794028:=0
def tw9565579081335021900:=0
def tw9372283886629853226:=0
def tw7514376739655782343:=0
def tw6655181957816000619:=0
def tw6395109731472746421:=0
def tw6140197528098464873:=0
def tw4458759751080331739:=0
def tw4214567614223154138:=0
def tw2535258348557971274:=0
def tw170095379525153858:=0
def tw13887782482804098375:=0
def tw13155180158219553987:=0
def tw12714456410518124786:=0
def tw11979736206825346967:=0
def tw11229525699212991930:=0
def tw10107537856545071870:=0
def tw17358129585725175786:=0
def tw5970393853376073974:=0
def tw5280003438207672376:=0
def tw4866935281587974591:=0
def tw3947475982106222432:=0
def tw2864083731327001108:=0
def tw1958658550780269950:=0
def tw18078999634182738469:=0
def tw16883796478292848798:=0
def tw16779302304875274811:=0
def tw16097346976030889371:=0
def tw125393440728444020:=0
def tw11670245826485157351:=0
def tw10522216464992896698:=0
def tw10350293044417137175:=0
def tw9222093444363656554:=0
def tw8826746336035890642:=0
def tw7389077665736685594:=0
def tw617917218285496300:=0
def tw5848965275307142004:=0
def tw5625584562495382387:=0
def tw5119769187649509404:=0
def tw3138328029135091874:=0
def tw3030890347769518723:=0
def tw2671877280087409116:=0
def tw18040729358740342031:=0
def tw18007974812087624882:=0
def tw17278994644481346062:=0
def tw15775221597157493017:=0
def tw15479728671990232732:=0
def tw15107801441474325019:=0
def tw15059858411747303525:=0
def tw1436814575349588384:=0
def tw13590679069754608041:=0
def tw1283020402476071222:=0
def tw1281411134120031610:=0
def tw12652044409130883425:=0
def tw11872866672679124718:=0
def tw11381329048871583862:=0
def tw10635164385024072060:=0
def tw9933702153648526722:=0
def tw9773822348414662369:=0
def tw9753409609507478401:=0
def tw9705696075915435721:=0
def tw9700112706512180304:=0
def tw9673493881988025643:=0
def tw9647686647538403419:=0
def tw962162375532245683:=0
def tw9612639448422808868:=0
def tw9505732795799922997:=0
def tw9472132730912746885:=0
def tw9401617404633656564:=0
def tw9359587353538234076:=0
def tw9328530529952410924:=0
def tw9316395928735183973:=0
def tw9309947963944539507:=0
def tw9296869829107109795:=0
def tw9208724510908785813:=0
def tw907050259216420780:=0
def tw8989781803084729844:=0
def tw8891644939666573603:=0
def tw8860651073357446912:=0
def tw8828904040184541206:=0
def tw8713897571815543437:=0
def tw8713873016348955589:=0
def tw8611721568089168845:=0
def tw8609235319213863965:=0
def tw8604366180419426504:=0
def tw8485257986460452484:=0
def tw8447748250797780914:=0
def tw8422156119267210396:=0
def tw8197974912998213992:=0
def tw8062743149990649345:=0
def tw8030238890649893735:=0
def tw8009840850314271292:=0
def tw7991317823977911128:=0
def tw7950361644580031973:=0
def tw7920001261414581737:=0
def tw7916306894619423212:=0
def tw7868775333768450484:=0
def tw7608626616454191649:=0
def tw7604147989816357844:=0
def tw7571847982853352132:=0
def tw7554797415638191263:=0
def tw7496029830260487481:=0
def tw7424550340595196964:=0
def tw741561505938548194:=0
def tw7411809792244187875:=0
def tw7405099214181365202:=0
def tw7376418504473860744:=0
def tw7344014377102348684:=0
def tw732971084422152813:=0
def tw7190651778990771711:=0
def tw7150174199285075077:=0
def tw7067605501721780906:=0
def tw7046536803419277231:=0
def tw7038558762265463969:=0
def tw7002778184887435213:=0
def tw6998265782061241135:=0
def tw6924437640905914664:=0
def tw6886942610378066231:=0
def tw6790720391897926986:=0
def tw6772498581237575654:=0
def tw67224067907108961:=0
def tw668617538356397397:=0
def tw6684848310387161019:=0
def tw665101194065605244:=0
def tw661691579764431726:=0
def tw6567850469701030135:=0
def tw6257621047043104925:=0
def tw619644588345250970:=0
def tw607916420994843844:=0
def tw6013118885338005590:=0
def tw5944642172291942625:=0
def tw5938442713592876163:=0
def tw591930700074092818:=0
def tw5870774489636183072:=0
def tw584738985570723523:=0
def tw5827363193130526564:=0
def tw5775673687555907213:=0
def tw5664590230457589641:=0
def tw5656747708047410270:=0
def tw5622855791215417638:=0
def tw5607980287566619693:=0
def tw5553095016360083503:=0
def tw5459498118722133424:=0
def tw5393159819966328528:=0
def tw5343527784400536669:=0
def tw5289707645289680574:=0
def tw5275360424902365456:=0
def tw5234786760068493535:=0
def tw5228386858444712739:=0
def tw515910345381270829:=0
def tw5119190209016988293:=0
def tw5099223363594063979:=0
def tw5091288918516373207:=0
def tw5004592137691437287:=0
def tw4974901447661377253:=0
def tw4936284455475503247:=0
def tw4915061629226103864:=0
def tw4864972368252765169:=0
def tw4752708839921515696:=0
def tw4708335555855143843:=0
def tw468206340719467913:=0
def tw4660588202410892664:=0
def tw4625170381751640560:=0
def tw4592000694304020445:=0
def tw4590993291196898609:=0
def tw4455938457203362924:=0
def tw4351628514869147371:=0
def tw4275276849681951041:=0
def tw4156144311500468747:=0
def tw4137083119492850036:=0
def tw403923459131342759:=0
def tw4017562649135843882:=0
def tw4005130700406208928:=0
def tw3964962525801753844:=0
def tw3905144486115381210:=0
def tw3827764625717495275:=0
def tw3470442347899940543:=0
def tw3465181619936350028:=0
def tw3308970268790774824:=0
def tw3229014628869336157:=0
def tw3213093500528353806:=0
def tw3160226401628201616:=0
def tw3083690679219715831:=0
def tw3044032663081065079:=0
def tw3003404045994585371:=0
def tw2900726628158319276:=0
def tw2854210340237908946:=0
def tw2757415418428610272:=0
def tw2700341763177906461:=0
def tw2670895150383233891:=0
def tw2656042023288308296:=0
def tw2617785065667950183:=0
def tw2612775405504678154:=0
def tw2597705911598979930:=0
def tw2554218648297688734:=0
def tw2423219981660398734:=0
def tw223789444335072243:=0
def tw2138252176754714169:=0
def tw2083721785065651928:=0
def tw2005690300977190771:=0
def tw1996412846408030231:=0
def tw1940363844266892031:=0
def tw18375562805569982626:=0
def tw18312290060440198628:=0
def tw18243627400226643266:=0
def tw18236964971700543153:=0
def tw18151497051678926687:=0
def tw18130277278573533024:=0
def tw18091194903564493087:=0
def tw1808172983724055474:=0
def tw18056675443692160186:=0
def tw17856051246836242014:=0
def tw17831850419353645223:=0
def tw17776836852323120230:=0
def tw17754806812892208661:=0
def tw17718455010314099367:=0
def tw176888326864926015:=0
def tw1768645230707123223:=0
def tw17587653778436860621:=0
def tw17517296640785195854:=0
def tw17461056664211309109:=0
def tw17431533515623906727:=0
def tw17409655104414210268:=0
def tw17366536637358168705:=0
def tw17331902076543124500:=0
def tw17162868405711042648:=0
def tw1715552587378215002:=0
def tw17133602355056911691:=0
def tw1708903559551004273:=0
def tw17043257125632126157:=0
def tw16988199157525243198:=0
def tw16981337055803057043:=0
def tw16936667556938311501:=0
def tw16927156735818971007:=0
def tw16907232406652689529:=0
def tw16847303798910551974:=0
def tw1684501926938781523:=0
def tw16832385244841378097:=0
def tw16735216222112164290:=0
def tw16540260265799393217:=0
def tw16047468018556315843:=0
def tw1602865260359675673:=0
def tw16014892806992022031:=0
def tw16006604063725584874:=0
def tw15979510011350586282:=0
def tw15914971013290710886:=0
def tw15802668309253948051:=0
def tw15776504760381673254:=0
def tw1568252787560740103:=0
def tw15633140346203281792:=0
def tw15606704605535889431:=0
def tw15591864387398964135:=0
def tw15466065876907741804:=0
def tw15456322501159001086:=0
def tw1541328303618847661:=0
def tw154010876950169520:=0
def tw15371753751611637283:=0
def tw15289073834175958934:=0
def tw15249046422971688143:=0
def tw151869317217131645:=0
def tw15103497958296672451:=0
def tw15081758798111497505:=0
def tw15015864329563619736:=0
def tw14994750474997367532:=0
def tw14983120139276388474:=0
def tw14932244677711244706:=0
def tw14888909766375019455:=0
def tw1487697794506674693:=0
def tw14768556006552862928:=0
def tw14732490147508099058:=0
def tw14700348774807872375:=0
def tw14687758439934310438:=0
def tw14655606190417586065:=0
def tw14641244338084379074:=0
def tw14615525178611039589:=0
def tw14600925863331009138:=0
def tw14545212978787709707:=0
def tw14401375455805608150:=0
def tw14394650941121565671:=0
def tw14266414173920071155:=0
def tw14227484633494467451:=0
def tw14207605252561110201:=0
def tw14135161092371792198:=0
def tw14120750683582458971:=0
def tw14094598934901580449:=0
def tw14089058901566167358:=0
def tw14064645296305999505:=0
def tw13962417957171338099:=0
def tw13888269953445560519:=0
def tw13880150127065471229:=0
def tw13860962964460548730:=0
def tw13846188773909183907:=0
def tw13826885120484184540:=0
def tw13629914822915829568:=0
def tw13536449539816176265:=0
def tw13480965790143801339:=0
def tw13463549111540118830:=0
def tw13396637277464559070:=0
def tw13370189433227283692:=0
def tw13319984427166727489:=0
def tw13251305047349499780:=0
def tw1313752909563481919:=0
def tw13029628210090607212:=0
def tw12969692263343248413:=0
def tw12932196697424831509:=0
def tw12896380240425097638:=0
def tw12851919744731516480:=0
def tw12678005103302703105:=0
def tw12506821632057329777:=0
def tw12424584298961407505:=0
def tw12337011449618824393:=0
def tw12319084676568609778:=0
def tw12270883903603829443:=0
def tw12224062524662972150:=0
def tw12171389109260041895:=0
def tw12155861988198258892:=0
def tw11979195875059786356:=0
def tw1189984347967359178:=0
def tw11863726615263887175:=0
def tw11761062057616576108:=0
def tw11742709276084871750:=0
def tw11741470372863433812:=0
def tw11714451123623300794:=0
def tw11652991887433486328:=0
def tw11635312674269943943:=0
def tw11538464888150312867:=0
def tw11536843725613193529:=0
def tw1151696043809147382:=0
def tw11443421208742026574:=0
def tw11423725114752290983:=0
def tw11334569322990108384:=0
def tw11265757503694795102:=0
def tw11218013957323751694:=0
def tw11164628763865638390:=0
def tw11072533430520584889:=0
def tw11000106303399477462:=0
def tw1094744791170689621:=0
def tw10908250793152557603:=0
def tw10827434856724416002:=0
def tw10735652983189317728:=0
def tw10664147448217098427:=0
def tw10663946600994015481:=0
def tw10626905120139827643:=0
def tw10594779309053509956:=0
def tw10552514846282321607:=0
def tw10498928564474793438:=0
def tw10481874173738242853:=0
def tw10471326136797390967:=0
def tw10427236261948865900:=0
def tw10413241639632384801:=0
def tw10363209318787455262:=0
def tw10353402989469219522:=0
def tw10303488473999255973:=0
def tw10299198730915475040:=0
def tw1023508474029080774:=0
def tw10193480527787818491:=0
def tw10158298214781777118:=0
def tw10108067525192056781:=0
def tw10075469273431428982:=0
end PySem.W.Fast
open PySem PySem.W PyProof.Rows
set_option maxRecDepth 100000 in
set_option maxHeartbeats 0 in
theorem PySem.Challenge.cw_roadsettings_k23_places_that_are_none_holds : PySem.Challenge.rw_roadsettings_k23_places_that_are_none.Holds := by
  w_on; o_law; k_head; (case hw => w_witness2)
  k_fill
  refine' K23.walk (l := PySem.Challenge.rw_roadsettings_k23_places_that_are_none) (P_z3 := 39) (P_z22 := 366) rfl rfl (fun w h Y => ⟨PySem.W.km_in_of Y, PySem.W.km_tabs_of Y⟩) ?hK ?hP0 ?hP1 (by decide) ?F
  case hP0 => decide
  case hP1 => decide
  case hK =>
    intro w b hb
    simp only [List.mem_cons, List.not_mem_nil, or_false] at hb
    rcases hb with rfl | rfl
    · exact ⟨by kernel_rfl, 43, by kernel_rfl⟩
    · exact ⟨by kernel_rfl, 370, by kernel_rfl⟩
  case F =>
    intro w mg fa h KX G hmg
    refine' K23.all_mk KX G hmg ?_ ?_ ?_ ?_ ?_ ?_ ?_ ?_ ?_ ?_ ?_ ?_ ?_ ?_ ?_ ?_ ?_ ?_ ?_ ?_ ?_ ?_ ?_ ?_ ?_ ?_ ?_ ?_ ?_ ?_ ?_ ?_ ?_ ?_ ?_ ?_ ?_ ?_ ?_ ?_ ?_ ?_ ?_ ?_ ?_ ?_ ?_ ?_ ?_ ?_ ?_ ?_ ?_ ?_ ?_ ?_ ?_ ?_ ?_ ?_ ?_ ?_ ?_ ?_ ?_ ?_ ?_ ?_ ?_ ?_ ?_ ?_ ?_ ?_ ?_ ?_ ?_ ?_ ?_ ?_ ?_ ?_ ?_ ?_ ?_ ?_ ?_ ?_ ?_ ?_ ?_ ?_ ?_ ?_ ?_ ?_ ?_ ?_ ?_ ?_ ?_ ?_ ?_ ?_ ?_ ?_ ?_ ?_ ?_ ?_ ?_ ?_ ?_ ?_ ?_ ?_ ?_ ?_ ?_ ?_
    all_goals try (first | refine ⟨⟨by k_is, by k_is, by k_is⟩, ⟨_, _, _, _, _, _, _, _, _, rfl, by k_is, by k_is⟩, by k_is⟩ | refine ⟨by k_is, ⟨_, _, _, _, _, _, _, _, _, rfl, by k_is, by k_is⟩, by k_is⟩ | refine ⟨by k_is, ⟨by k_is, by k_is, by k_is, by k_is⟩, by k_is, by k_is⟩ | refine ⟨⟨by k_is, by k_is, by k_is⟩, ⟨_, _, _, _, _, _, _, _, rfl, by k_is, by k_is⟩, by k_is, by kernel_rfl⟩ | refine ⟨by k_is, ⟨_, _, _, _, _, _, _, _, rfl, by k_is, by k_is⟩, by k_is, by kernel_rfl⟩ | (show _ = _; first | k_is | kernel_rfl))
